/- What the reader of package edit, small and smalls do when called (walks over the translated program). -/
import Derived.Test.YtgopcaemgcnapaaERdMath
import Derived.Test.YtgopcaemgcnapaaCut
import Derived.Test.YtgopcaemgcnapaaEReg
namespace Go.Proofs.Ytgopcaemgcnapaa.Clep
open Go.RowKit
set_option linter.unusedVariables false
set_option maxRecDepth 10000

theorem Bs.gb {w w' : World} {row : Option Nat} {ao : Option Addr} {len cap : Nat} {zs : List Int} (h : Bs w ao len cap zs) (hg : w.grownBy w' row) (hne : 0 < len → ∀ a, ao = some a → some a.block ≠ row) : Bs w' ao len cap zs := by
  refine ⟨h.1, h.2.1, h.2.2.1, fun h0 => ?_⟩
  obtain ⟨b, off, ho, hc⟩ := h.2.2.2 h0
  exact ⟨b, off, ho, fun i hi => gb_cells hg (World.block_lt_of_cell? w _ (hc i hi)) (hne h0 ⟨b, off, none⟩ ho) _ _ (hc i hi)⟩
/-- The reader in block R: what is left, and whether a number was refused. The bytes lie below B. -/
def Rdr (W : World) (B R : Nat) (s : List Int × Bool) : Prop := ∃ ao n c, Ek W R #[.slice ao n c, .bool s.2] 88 ∧ Bs W ao n c s.1 ∧ c ≤ 9223372036854775807 ∧ (0 < n → ∀ a, ao = some a → a.block < B) ∧ B ≤ R
theorem Rdr.lt {W : World} {B R : Nat} {s : List Int × Bool} (h : Rdr W B R s) : R < W.heap.size := by
  obtain ⟨ao, n, c, h1, _⟩ := h
  exact h1.lt
theorem Rdr.gb {W W' : World} {B R : Nat} {s : List Int × Bool} {row : Option Nat} (h : Rdr W B R s) (hg : W.grownBy W' row) (hne : some R ≠ row) (hB : ∀ k, row = some k → B ≤ k) : Rdr W' B R s := by
  obtain ⟨ao, n, c, h1, h2, h3, h4, h5⟩ := h
  refine ⟨ao, n, c, h1.gb hg hne, h2.gb hg (fun h0 a ha e => ?_), h3, h4, h5⟩
  have := h4 h0 a ha
  have := hB _ e.symm
  omega
theorem Rdr.keep {W W' : World} {B R : Nat} {s : List Int × Bool} (h : Rdr W B R s) (hb : Below W.heap.size W W') : Rdr W' B R s := h.gb (fgb_below hb none) (by simp) (by simp)
theorem ecut_block {a : Option Addr} {cap l B : Nat} (h : ∀ x, a = some x → x.block < B) : ∀ x, cut a cap l = some x → x.block < B := by
  intro x hx
  unfold cut at hx
  split at hx
  · exact h x hx
  · cases a with
    | none => cases hx
    | some y =>
      simp at hx
      subst hx
      have := h y rfl
      unfold Addr.add
      split <;> exact this

section
attribute [local go_sem ↓] cut_l
set_option maxHeartbeats 400000 in
theorem rdtake_any (B R : Nat) (s : List Int × Bool) (W : World) (h : Rdr W B R s) (hl : s.1.length ≤ 1000000) :
    Calls Try.prog 42 #[.pointer (some ⟨R, 0, none⟩)] W fun e w' => e = .returned (.int .u64 (rt s).1) ∧ Rdr w' B R (rt s).2 ∧ W.grownBy w' (some R) := by
  obtain ⟨X, r⟩ := s
  obtain ⟨ao, n, c, h1, h2, h3, h4, h5⟩ := h
  simp only at h1 h2 hl
  have hn := h2.1
  have CT := hide (take_any ao n c X W (by omega) h2)
  have hsz := tk_size X 0 0 (by omega)
  have HRT := hide (show rt (X, r) = if (tk X 0 0).2.2 = 0 then ((tk X 0 0).1, (X.drop (tk X 0 0).2.1.toNat, r)) else (0, (X, true)) from rfl)
  obtain ⟨x, sz, e, ht⟩ : ∃ x sz e, tk X 0 0 = (x, sz, e) := ⟨_, _, _, rfl⟩
  rw [ht] at CT HRT hsz
  unfold tup at CT
  simp only at CT HRT hsz
  have k0 : W.cell? ⟨R, 0, none⟩ = some (.slice ao n c) := h1.cell rfl
  have k1 : W.cell? ⟨R, 1, none⟩ = some (.bool r) := h1.cell rfl
  have f0 := h1.free 0
  have f1 := h1.free 1
  have H1 := hide h1
  have H2 := hide h2
  have H4 := hide h4
  clear h1 h2 h4 ht
  by_cases he : e = 0
  · subst he
    have HR := hide (show rt (X, r) = (x, (X.drop sz.toNat, r)) by rw [HRT.out, if_pos rfl])
    have hs0 : 0 ≤ sz := hsz.1
    have hs1 : sz ≤ (n : Int) := by omega
    rw [HR.out]
    clear HRT HR hsz
    go_enter Try.func42, Try.ntmps42
    go_wp2_with fail
    refine CT.out.mono ?_
    rintro en w1 ⟨rfl, hw1⟩
    subst hw1
    clear CT
    go_wp2
    go_ret
    have hg := fgb_set w1 ⟨R, 0, none⟩ (.slice (cut ao c sz.toNat) (n - sz.toNat) (c - sz.toNat))
    have hcut := H2.out.cut sz.toNat n (by omega) (Nat.le_refl _)
    rw [List.take_of_length_le (by omega)] at hcut
    refine ⟨rfl, ⟨_, _, _, H1.out.set 0 _, hcut.gb hg (fun h0 a ha e => ?_), by omega, fun h0 a ha => ?_, h5⟩, hg⟩
    · have h6 : a.block = R := Option.some.inj e
      have := ecut_block (H4.out (by omega)) a ha
      omega
    · exact ecut_block (H4.out (by omega)) a ha
  · have HR := hide (show rt (X, r) = (0, (X, true)) by rw [HRT.out, if_neg he])
    have q : (e != 0) = true := by simpa using he
    rw [HR.out]
    clear HRT HR hsz he
    go_enter Try.func42, Try.ntmps42
    go_wp2_with fail
    refine CT.out.mono ?_
    rintro en w1 ⟨rfl, hw1⟩
    subst hw1
    clear CT
    go_wp2
    go_ret
    have hg := fgb_set w1 ⟨R, 1, none⟩ (.bool true)
    refine ⟨rfl, ⟨ao, n, c, H1.out.set 1 _, H2.out.gb hg (fun h0 a ha e => ?_), h3, H4.out, h5⟩, hg⟩
    have h6 : a.block = R := Option.some.inj e
    have := H4.out h0 a ha
    omega
end
theorem small_any (n : Int) (w : World) (h0 : 0 ≤ n) : Calls Try.prog 43 #[.int .u64 n] w fun e w' => e = .returned (.int .i64 (sm n)) ∧ w' = w := by
  by_cases h : 1073741824 < n
  · have hs : sm n = -1 := by unfold sm; rw [if_pos h]
    rw [hs]
    go_enter Try.func43, Try.ntmps43
    go_wp2
    go_ret
    exact ⟨rfl, rfl⟩
  · have hs : sm n = n := sm_id (by omega)
    have hwr : IntKind.i64.wrap n = n := by
      simp [IntKind.wrap, IntKind.bits, IntKind.signed]
      omega
    rw [hs]
    go_enter Try.func43, Try.ntmps43
    go_wp2
    go_ret
    exact ⟨rfl, rfl⟩
set_option maxHeartbeats 400000 in
theorem smalls_any (v : Value) (ns : List Int) (B : Nat) (w : World) (h : OwnU w B v ns) (hr : ∀ z ∈ ns, 0 ≤ z ∧ z ≤ 18446744073709551615) (hl : ns.length ≤ 40) :
    Calls Try.prog 41 #[v] w fun e w' => ∃ v', e = .returned v' ∧ OwnZ w' w.heap.size v' (ns.map sm) ∧ Below w.heap.size w w' := by
  obtain ⟨ao, cap, rfl, hus⟩ := ownU_us h hr
  obtain ⟨n, hn⟩ : ∃ n, ns.length = n := ⟨_, rfl⟩
  rw [hn] at hus hl ⊢
  have HU := hide (fun W (hW : Below w.heap.size w W) => hus.below hW (Nat.le_refl _))
  have HR := hide hr
  have HS := hide small_any
  clear h hus hr
  go_enter Try.func41, Try.ntmps41
  go_wp2_with fail
  go_loopw [3, 8] (fun v s wr => ∃ k : Nat, k ≤ n ∧ s = .int .i64 k ∧ Hid (OwnZ wr w.heap.size v ((ns.take k).map sm)) ∧ Hid (Below w.heap.size w wr)) (fun _ s _ => n - (intOf s).toNat)
  case atStart => exact ⟨0, by omega, rfl, hide (ownZ_nil _ _), hide (Below.refl _ _)⟩
  case round =>
    obtain ⟨k, hk, rfl, hown, hbel⟩ := hrel
    by_cases hlt : k < n
    · obtain ⟨b, off, rfl, hcell⟩ := (HU.out wr hbel.out).2.2.2 (by omega)
      have hck := hcell k hlt
      have hkl : k < ns.length := by omega
      have hgd : ns.getD k 0 = ns[k] := by simp [List.getD, List.getElem?_eq_getElem hkl]
      rw [hgd] at hck
      obtain ⟨z, hz⟩ : ∃ z, ns[k] = z := ⟨_, rfl⟩
      have hzr := HR.out ns[k] (List.getElem_mem hkl)
      rw [hz] at hck hzr
      have HT := hide (show (ns.take (k + 1)).map sm = (ns.take k).map sm ++ [sm z] from by rw [List.take_add_one, List.getElem?_eq_getElem hkl, hz, List.map_append]; rfl)
      have HLT := hide (show ((ns.take k).map sm).length ≤ 100000 from by rw [List.length_map, List.length_take]; omega)
      have A1 := (Below.refl _ wr).alloc (Nat.le_refl _) (Obj.cells #[.int .i64 (sm z)] 3)
      have HO1 := hide (show OwnZ (wr.alloc (Obj.cells #[.int .i64 (sm z)] 3)) w.heap.size u3 ((ns.take k).map sm) from by
        refine World.ownsRow.kept hown.out (fgb_below A1 none) ?_
        cases hv : u3.ownBlock with
        | none => exact .inl rfl
        | some k => exact .inr (by simp))
      have HE1 := hide (ek_new wr #[.int .i64 (sm z)] 3)
      have HS1 := hide (Nat.le_trans hbel.out.size A1.size)
      have HB1 := hide (hbel.out.trans (A1.mono hbel.out.size))
      have CS := hide (small_any z wr hzr.1)
      clear hcell hgd hz A1 hzr
      go_wp2_with fail
      refine CS.out.mono ?_
      rintro e w1 ⟨rfl, hw1⟩
      subst hw1
      clear CS
      go_wp2_with (first
        | (at_builtin; refine wpList_append_z rfl _ _ rfl w.heap.size _ ((ns.take k).map sm) rfl HO1.out w1.heap.size (sm z) rfl HE1.out HLT.out HS1.out ?_; intro v2 w2 o2 g2 k2; have HO2 := hide o2; have HB2 := hide (HB1.out.grown g2 HS1.out k2); clear o2 g2 k2)
        | fail)
      go_roundw
      case rel => exact ⟨k + 1, by omega, by go_num, hide (by rw [HT.out]; exact HO2.out), HB2⟩
      case measure => simp [intOf]; omega
    · obtain rfl : k = n := by omega
      have hown2 := hown.out
      rw [List.take_of_length_le (by omega)] at hown2
      have HO := hide hown2
      clear hown hown2
      go_wp2
      go_ret
      exact ⟨_, rfl, HO.out, hbel.out⟩

end Go.Proofs.Ytgopcaemgcnapaa.Clep
