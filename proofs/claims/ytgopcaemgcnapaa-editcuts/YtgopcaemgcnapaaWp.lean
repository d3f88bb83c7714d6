/- Reading an Edit: number by number, as Lean's own functions. No conditions. -/
import Derived.Test.YtgopcaemgcnapaaEBody
import Derived.Test.YtgopcaemgcnapaaCut
import Derived.Test.YtgopcaemgcnapaaEReg
import Derived.Test.YtgopcaemgcnapaaEWhole
import Derived.Test.YtgopcaemgcnapaaEApplyP
import Derived.Deep.RegionLaw
import Derived.Test.YtgopcaemgcnapaaCrcText
import Derived.Lib.ConvBytes
import Derived.Test.YtgopcaemgcnapaaEBodyW
import Derived.Test.YtgopcaemgcnapaaFMath
import Derived.Test.YtgopcaemgcnapaaFPut
import Derived.Test.YtgopcaemgcnapaaERefEdit
import Derived.Test.YtgopcaemgcnapaaEAwake
import Derived.Test.YtgopcaemgcnapaaESameE
import Derived.Test.YtgopcaemgcnapaaEEdits
namespace Go.Proofs.Ytgopcaemgcnapaa.Clep
open Go.RowKit
set_option linter.unusedVariables false
set_option maxRecDepth 10000

/-- One number more: what is left, and whether one was refused. -/
def rt (s : List Int × Bool) : Int × (List Int × Bool) := if (tk s.1 0 0).2.2 = 0 then ((tk s.1 0 0).1, (s.1.drop (tk s.1 0 0).2.1.toNat, s.2)) else (0, (s.1, true))
def stN (s : List Int × Bool) : Nat → List Int × Bool
  | 0 => s
  | j + 1 => (rt (stN s j)).2
def nr (s : List Int × Bool) (j : Nat) : Int := (rt (stN s j)).1
theorem rt_range (s : List Int × Bool) (h : ByteL s.1) : (0 ≤ (rt s).1 ∧ (rt s).1 ≤ 18446744073709551615) ∧ ByteL (rt s).2.1 := by
  unfold rt
  split
  · have := tk_facts s.1 0 0 (by omega) h (by omega) (by simp)
    exact ⟨⟨this.1, this.2.1⟩, fun z hz => h z (List.mem_of_mem_drop hz)⟩
  · exact ⟨by simp, h⟩
theorem stN_byte (s : List Int × Bool) (h : ByteL s.1) : ∀ j, ByteL (stN s j).1
  | 0 => h
  | j + 1 => (rt_range _ (stN_byte s h j)).2
theorem nr_range (s : List Int × Bool) (h : ByteL s.1) (j : Nat) : 0 ≤ nr s j ∧ nr s j ≤ 18446744073709551615 := (rt_range _ (stN_byte s h j)).1
theorem rt_bad (s : List Int × Bool) (h : s.2 = true) : (rt s).2.2 = true := by unfold rt; split <;> simp [h]
theorem stN_bad (s : List Int × Bool) : ∀ (j k : Nat), (stN s j).2 = true → (stN s (j + k)).2 = true
  | j, 0, h => h
  | j, k + 1, h => rt_bad _ (stN_bad s j k h)
theorem rt_len (s : List Int × Bool) : (rt s).2.1.length ≤ s.1.length := by
  unfold rt
  split
  · simp
  · exact Nat.le_refl _
theorem stN_len (s : List Int × Bool) : ∀ j, (stN s j).1.length ≤ s.1.length
  | 0 => Nat.le_refl _
  | j + 1 => Nat.le_trans (rt_len _) (stN_len s j)
def sm (n : Int) : Int := if n > 1073741824 then -1 else n
/-- Behind the numbers of Drop. -/
def s0X (X : List Int) : List Int × Bool := (X.drop (ul X 40).2.1.toNat, false)
def cX (X : List Int) : Int := (rt (s0X X)).1
def s1X (X : List Int) : List Int × Bool := (rt (s0X X)).2
def fX (X : List Int) (n : Nat) : List Fi := (List.range n).map (fun i => ⟨nr (s1X X) (2 * i), nr (s1X X) (2 * i + 1)⟩)
/-- The Edit that the bytes would be. -/
def rawE (X : List Int) : Ed := ⟨(ul X 40).1, fX X (cX X).toNat, nr (s1X X) (2 * (cX X).toNat), nr (s1X X) (2 * (cX X).toNat + 1), nr (s1X X) (2 * (cX X).toNat + 2), nr (s1X X) (2 * (cX X).toNat + 3), nr (s1X X) (2 * (cX X).toNat + 4)⟩
def okR (X : List Int) : Bool := decide ((ul X 40).2.2 = 0) && (decide (cX X ≤ 40) && (!(stN (s1X X) (2 * (cX X).toNat + 5)).2 && decide ((stN (s1X X) (2 * (cX X).toNat + 5)).1.length = 0)))
/-- What Read answers. -/
def red (X : List Int) : Option Ed := if (okR X && mayB (rawE X)) = true then some (rawE X) else none
def smF (f : Fi) : Fi := ⟨sm f.L, sm f.N⟩
/-- The Edit with each number that is too great as -1. -/
def smE (E : Ed) : Ed := ⟨E.d.map sm, E.a.map smF, sm E.lg, E.fl, E.ct, E.at9, E.ls⟩
theorem sm_id {n : Int} (h : n ≤ 1073741824) : sm n = n := by unfold sm; rw [if_neg (by omega)]
theorem sm_pos {n : Int} (h : 0 ≤ sm n) : sm n = n := by
  unfold sm at h ⊢
  split at h
  · omega
  · rename_i hh; rw [if_neg hh]
theorem map_id_of {α : Type} {f : α → α} : ∀ {l : List α}, (∀ x ∈ l, f x = x) → l.map f = l
  | [], _ => rfl
  | x :: r, h => by rw [List.map_cons, h x (List.mem_cons_self ..), map_id_of (fun y hy => h y (List.mem_cons_of_mem _ hy))]
theorem smE_may {E : Ed} (h : mayB E = true) : smE E = E := by
  have hp := emay_parts ((mayB_iff E).1 h)
  obtain ⟨d, a, lg, fl, ct, at9, ls⟩ := E
  unfold smE
  simp only at hp ⊢
  rw [map_id_of (fun z hz => sm_id (hp.2.1 z hz).2), map_id_of (fun f hf => ?_), sm_id hp.2.2.2.1.2]
  have := hp.2.2.1 f hf
  unfold smF
  rw [sm_id (by omega), sm_id (by omega)]
theorem may_smE {E : Ed} (h : mayB (smE E) = true) : smE E = E := by
  have hp := emay_parts ((mayB_iff _).1 h)
  obtain ⟨d, a, lg, fl, ct, at9, ls⟩ := E
  unfold smE at hp ⊢
  simp only at hp ⊢
  rw [map_id_of (fun z hz => sm_pos (by have := (hp.2.1 (sm z) (List.mem_map.2 ⟨z, hz, rfl⟩)).1; omega)), map_id_of (fun f hf => ?_), sm_pos hp.2.2.2.1.1]
  have := hp.2.2.1 (smF f) (List.mem_map.2 ⟨f, hf, rfl⟩)
  unfold smF at this ⊢
  simp only at this
  rw [sm_pos (by omega), sm_pos (by omega)]
theorem mayB_smE (E : Ed) : mayB (smE E) = mayB E := by
  cases h1 : mayB E with
  | true => rw [smE_may h1, h1]
  | false =>
    cases h2 : mayB (smE E) with
    | false => rfl
    | true => rw [may_smE h2] at h2; rw [h2] at h1; cases h1
theorem red_form (X : List Int) : red X = if (okR X && mayB (smE (rawE X))) = true then some (smE (rawE X)) else none := by
  rw [mayB_smE]
  unfold red
  split
  · rename_i h
    rw [Bool.and_eq_true] at h
    rw [smE_may h.2]
  · rfl
theorem red_may {X : List Int} {E : Ed} (h : red X = some E) : emay E = 0 := by
  unfold red at h
  split at h
  · rename_i hh
    rw [Bool.and_eq_true] at hh
    injection h with h
    rw [← h]
    exact (mayB_iff _).1 hh.2
  · cases h
theorem fX_next (X : List Int) (n : Nat) : fX X (n + 1) = fX X n ++ [⟨nr (s1X X) (2 * n), nr (s1X X) (2 * n + 1)⟩] := by
  unfold fX
  rw [List.range_succ, List.map_append]
  rfl
theorem fX_len (X : List Int) (n : Nat) : (fX X n).length = n := by unfold fX; simp

end Go.Proofs.Ytgopcaemgcnapaa.Clep

/- What the reader of package edit, small and smalls do when called (walks over the translated program). -/
namespace Go.Proofs.Ytgopcaemgcnapaa.Clep
open Go.RowKit
set_option linter.unusedVariables false
set_option maxRecDepth 10000

theorem Bs.gb {w w' : World} {row : Option Nat} {ao : Option Addr} {len cap : Nat} {zs : List Int} (h : Bs w ao len cap zs) (hg : w.grownBy w' row) (hne : 0 < len → ∀ a, ao = some a → some a.block ≠ row) : Bs w' ao len cap zs := by
  refine ⟨h.1, h.2.1, h.2.2.1, fun h0 => ?_⟩
  obtain ⟨b, off, ho, hc⟩ := h.2.2.2 h0
  exact ⟨b, off, ho, fun i hi => gb_cells hg (World.block_lt_of_cell? w _ (hc i hi)) (hne h0 ⟨b, off, none⟩ ho) _ _ (hc i hi)⟩
/-- The reader in block R: what is left, and whether a number was refused. The bytes lie below B. -/
def Rdr (W : World) (B R : Nat) (s : List Int × Bool) : Prop := ∃ ao n c, Ek W R #[.slice ao n c, .bool s.2] 88 ∧ Bs W ao n c s.1 ∧ c ≤ 9223372036854775807 ∧ (0 < n → ∀ a, ao = some a → a.block < B) ∧ B ≤ R
theorem Rdr.lt {W : World} {B R : Nat} {s : List Int × Bool} (h : Rdr W B R s) : R < W.heap.size := by
  obtain ⟨ao, n, c, h1, _⟩ := h
  exact h1.lt
theorem Rdr.gb {W W' : World} {B R : Nat} {s : List Int × Bool} {row : Option Nat} (h : Rdr W B R s) (hg : W.grownBy W' row) (hne : some R ≠ row) (hB : ∀ k, row = some k → B ≤ k) : Rdr W' B R s := by
  obtain ⟨ao, n, c, h1, h2, h3, h4, h5⟩ := h
  refine ⟨ao, n, c, h1.gb hg hne, h2.gb hg (fun h0 a ha e => ?_), h3, h4, h5⟩
  have := h4 h0 a ha
  have := hB _ e.symm
  omega
theorem Rdr.keep {W W' : World} {B R : Nat} {s : List Int × Bool} (h : Rdr W B R s) (hb : Below W.heap.size W W') : Rdr W' B R s := h.gb (fgb_below hb none) (by simp) (by simp)
theorem ecut_block {a : Option Addr} {cap l B : Nat} (h : ∀ x, a = some x → x.block < B) : ∀ x, cut a cap l = some x → x.block < B := by
  intro x hx
  unfold cut at hx
  split at hx
  · exact h x hx
  · cases a with
    | none => cases hx
    | some y =>
      simp at hx
      subst hx
      have := h y rfl
      unfold Addr.add
      split <;> exact this

section
attribute [local go_sem ↓] cut_l
set_option maxHeartbeats 400000 in
theorem rdtake_any (B R : Nat) (s : List Int × Bool) (W : World) (h : Rdr W B R s) (hl : s.1.length ≤ 1000000) :
    Calls Try.prog 42 #[.pointer (some ⟨R, 0, none⟩)] W fun e w' => e = .returned (.int .u64 (rt s).1) ∧ Rdr w' B R (rt s).2 ∧ W.grownBy w' (some R) := by
  obtain ⟨X, r⟩ := s
  obtain ⟨ao, n, c, h1, h2, h3, h4, h5⟩ := h
  simp only at h1 h2 hl
  have hn := h2.1
  have CT := hide (take_any ao n c X W (by omega) h2)
  have hsz := tk_size X 0 0 (by omega)
  have HRT := hide (show rt (X, r) = if (tk X 0 0).2.2 = 0 then ((tk X 0 0).1, (X.drop (tk X 0 0).2.1.toNat, r)) else (0, (X, true)) from rfl)
  obtain ⟨x, sz, e, ht⟩ : ∃ x sz e, tk X 0 0 = (x, sz, e) := ⟨_, _, _, rfl⟩
  rw [ht] at CT HRT hsz
  unfold tup at CT
  simp only at CT HRT hsz
  have k0 : W.cell? ⟨R, 0, none⟩ = some (.slice ao n c) := h1.cell rfl
  have k1 : W.cell? ⟨R, 1, none⟩ = some (.bool r) := h1.cell rfl
  have f0 := h1.free 0
  have f1 := h1.free 1
  have H1 := hide h1
  have H2 := hide h2
  have H4 := hide h4
  clear h1 h2 h4 ht
  by_cases he : e = 0
  · subst he
    have HR := hide (show rt (X, r) = (x, (X.drop sz.toNat, r)) by rw [HRT.out, if_pos rfl])
    have hs0 : 0 ≤ sz := hsz.1
    have hs1 : sz ≤ (n : Int) := by omega
    rw [HR.out]
    clear HRT HR hsz
    go_enter Try.func42, Try.ntmps42
    go_wp2_with fail
    refine CT.out.mono ?_
    rintro en w1 ⟨rfl, hw1⟩
    subst hw1
    clear CT
    go_wp2
    go_ret
    have hg := fgb_set w1 ⟨R, 0, none⟩ (.slice (cut ao c sz.toNat) (n - sz.toNat) (c - sz.toNat))
    have hcut := H2.out.cut sz.toNat n (by omega) (Nat.le_refl _)
    rw [List.take_of_length_le (by omega)] at hcut
    refine ⟨rfl, ⟨_, _, _, H1.out.set 0 _, hcut.gb hg (fun h0 a ha e => ?_), by omega, fun h0 a ha => ?_, h5⟩, hg⟩
    · have h6 : a.block = R := Option.some.inj e
      have := ecut_block (H4.out (by omega)) a ha
      omega
    · exact ecut_block (H4.out (by omega)) a ha
  · have HR := hide (show rt (X, r) = (0, (X, true)) by rw [HRT.out, if_neg he])
    have q : (e != 0) = true := by simpa using he
    rw [HR.out]
    clear HRT HR hsz he
    go_enter Try.func42, Try.ntmps42
    go_wp2_with fail
    refine CT.out.mono ?_
    rintro en w1 ⟨rfl, hw1⟩
    subst hw1
    clear CT
    go_wp2
    go_ret
    have hg := fgb_set w1 ⟨R, 1, none⟩ (.bool true)
    refine ⟨rfl, ⟨ao, n, c, H1.out.set 1 _, H2.out.gb hg (fun h0 a ha e => ?_), h3, H4.out, h5⟩, hg⟩
    have h6 : a.block = R := Option.some.inj e
    have := H4.out h0 a ha
    omega
end
theorem small_any (n : Int) (w : World) (h0 : 0 ≤ n) : Calls Try.prog 43 #[.int .u64 n] w fun e w' => e = .returned (.int .i64 (sm n)) ∧ w' = w := by
  by_cases h : 1073741824 < n
  · have hs : sm n = -1 := by unfold sm; rw [if_pos h]
    rw [hs]
    go_enter Try.func43, Try.ntmps43
    go_wp2
    go_ret
    exact ⟨rfl, rfl⟩
  · have hs : sm n = n := sm_id (by omega)
    have hwr : IntKind.i64.wrap n = n := by
      simp [IntKind.wrap, IntKind.bits, IntKind.signed]
      omega
    rw [hs]
    go_enter Try.func43, Try.ntmps43
    go_wp2
    go_ret
    exact ⟨rfl, rfl⟩
set_option maxHeartbeats 400000 in
theorem smalls_any (v : Value) (ns : List Int) (B : Nat) (w : World) (h : OwnU w B v ns) (hr : ∀ z ∈ ns, 0 ≤ z ∧ z ≤ 18446744073709551615) (hl : ns.length ≤ 40) :
    Calls Try.prog 41 #[v] w fun e w' => ∃ v', e = .returned v' ∧ OwnZ w' w.heap.size v' (ns.map sm) ∧ Below w.heap.size w w' := by
  obtain ⟨ao, cap, rfl, hus⟩ := ownU_us h hr
  obtain ⟨n, hn⟩ : ∃ n, ns.length = n := ⟨_, rfl⟩
  rw [hn] at hus hl ⊢
  have HU := hide (fun W (hW : Below w.heap.size w W) => hus.below hW (Nat.le_refl _))
  have HR := hide hr
  have HS := hide small_any
  clear h hus hr
  go_enter Try.func41, Try.ntmps41
  go_wp2_with fail
  go_loopw [3, 8] (fun v s wr => ∃ k : Nat, k ≤ n ∧ s = .int .i64 k ∧ Hid (OwnZ wr w.heap.size v ((ns.take k).map sm)) ∧ Hid (Below w.heap.size w wr)) (fun _ s _ => n - (intOf s).toNat)
  case atStart => exact ⟨0, by omega, rfl, hide (ownZ_nil _ _), hide (Below.refl _ _)⟩
  case round =>
    obtain ⟨k, hk, rfl, hown, hbel⟩ := hrel
    by_cases hlt : k < n
    · obtain ⟨b, off, rfl, hcell⟩ := (HU.out wr hbel.out).2.2.2 (by omega)
      have hck := hcell k hlt
      have hkl : k < ns.length := by omega
      have hgd : ns.getD k 0 = ns[k] := by simp [List.getD, List.getElem?_eq_getElem hkl]
      rw [hgd] at hck
      obtain ⟨z, hz⟩ : ∃ z, ns[k] = z := ⟨_, rfl⟩
      have hzr := HR.out ns[k] (List.getElem_mem hkl)
      rw [hz] at hck hzr
      have HT := hide (show (ns.take (k + 1)).map sm = (ns.take k).map sm ++ [sm z] from by rw [List.take_add_one, List.getElem?_eq_getElem hkl, hz, List.map_append]; rfl)
      have HLT := hide (show ((ns.take k).map sm).length ≤ 100000 from by rw [List.length_map, List.length_take]; omega)
      have A1 := (Below.refl _ wr).alloc (Nat.le_refl _) (Obj.cells #[.int .i64 (sm z)] 3)
      have HO1 := hide (show OwnZ (wr.alloc (Obj.cells #[.int .i64 (sm z)] 3)) w.heap.size u3 ((ns.take k).map sm) from by
        refine World.ownsRow.kept hown.out (fgb_below A1 none) ?_
        cases hv : u3.ownBlock with
        | none => exact .inl rfl
        | some k => exact .inr (by simp))
      have HE1 := hide (ek_new wr #[.int .i64 (sm z)] 3)
      have HS1 := hide (Nat.le_trans hbel.out.size A1.size)
      have HB1 := hide (hbel.out.trans (A1.mono hbel.out.size))
      have CS := hide (small_any z wr hzr.1)
      clear hcell hgd hz A1 hzr
      go_wp2_with fail
      refine CS.out.mono ?_
      rintro e w1 ⟨rfl, hw1⟩
      subst hw1
      clear CS
      go_wp2_with (first
        | (at_builtin; refine wpList_append_z rfl _ _ rfl w.heap.size _ ((ns.take k).map sm) rfl HO1.out w1.heap.size (sm z) rfl HE1.out HLT.out HS1.out ?_; intro v2 w2 o2 g2 k2; have HO2 := hide o2; have HB2 := hide (HB1.out.grown g2 HS1.out k2); clear o2 g2 k2)
        | fail)
      go_roundw
      case rel => exact ⟨k + 1, by omega, by go_num, hide (by rw [HT.out]; exact HO2.out), HB2⟩
      case measure => simp [intOf]; omega
    · obtain rfl : k = n := by omega
      have hown2 := hown.out
      rw [List.take_of_length_le (by omega)] at hown2
      have HO := hide hown2
      clear hown hown2
      go_wp2
      go_ret
      exact ⟨_, rfl, HO.out, hbel.out⟩

end Go.Proofs.Ytgopcaemgcnapaa.Clep

/- What edit.Read does when called: what its blocks hold between its steps, what it returns. No conditions. -/
namespace Go.Proofs.Ytgopcaemgcnapaa.Clep
open Go.RowKit
set_option linter.unusedVariables false
set_option maxRecDepth 10000

theorem uls_place : ∀ (c : Nat) (zs : List Int) (P : Nat) (acc : List Int), P ≤ zs.length → (uls c zs P acc).2.2 = 0 → 0 ≤ (uls c zs P acc).2.1 ∧ (uls c zs P acc).2.1 ≤ (zs.length : Int)
  | 0, zs, P, acc, h, _ => by unfold uls; simp; omega
  | c + 1, zs, P, acc, h, he => by
    unfold uls at he ⊢
    split
    · rename_i ht
      rw [if_pos ht] at he
      have h1 := tk_size (zs.drop P) 0 0 (by omega)
      rw [List.length_drop] at h1
      exact uls_place c zs _ _ (by omega) he
    · rename_i ht
      rw [if_neg ht] at he
      simp
theorem ul_place (zs : List Int) (most : Int) (h : (ul zs most).2.2 = 0) : 0 ≤ (ul zs most).2.1 ∧ (ul zs most).2.1 ≤ (zs.length : Int) := by
  unfold ul at h ⊢
  split
  · rename_i ht
    rw [if_pos ht] at h
    split
    · rename_i hm
      simp
    · rename_i hm
      rw [if_neg hm] at h
      have h1 := tk_size zs 0 0 (by omega)
      exact uls_place _ zs _ _ (by omega) h
  · simp
theorem uls_nums : ∀ (c : Nat) (zs : List Int) (P : Nat) (acc : List Int), ByteL zs → (∀ z ∈ acc, 0 ≤ z ∧ z ≤ 18446744073709551615) → (∀ z ∈ (uls c zs P acc).1, 0 ≤ z ∧ z ≤ 18446744073709551615) ∧ ((uls c zs P acc).2.2 = 0 → (uls c zs P acc).1.length = acc.length + c)
  | 0, zs, P, acc, h, ha => by unfold uls; exact ⟨ha, fun _ => rfl⟩
  | c + 1, zs, P, acc, h, ha => by
    unfold uls
    split
    · have hf := tk_facts (zs.drop P) 0 0 (by omega) (fun z hz => h z (List.mem_of_mem_drop hz)) (by omega) (by simp)
      have := uls_nums c zs (P + (tk (zs.drop P) 0 0).2.1.toNat) (acc ++ [(tk (zs.drop P) 0 0).1]) h (fun z hz => by
        rcases List.mem_append.1 hz with e | e
        · exact ha z e
        · rw [List.mem_singleton.1 e]; exact ⟨hf.1, hf.2.1⟩)
      refine ⟨this.1, fun e => ?_⟩
      rw [this.2 e]
      simp
      omega
    · rename_i ht
      exact ⟨by simp, fun e => absurd e ht⟩
theorem ul_nums (zs : List Int) (most : Int) (h : ByteL zs) (hm : 0 ≤ most) : (∀ z ∈ (ul zs most).1, 0 ≤ z ∧ z ≤ 18446744073709551615) ∧ ((ul zs most).2.2 = 0 → ((ul zs most).1.length : Int) ≤ most) := by
  unfold ul
  split
  · split
    · exact ⟨by simp, fun e => by simp at e⟩
    · rename_i ht hmm
      have h1 := uls_nums (tk zs 0 0).1.toNat zs (tk zs 0 0).2.1.toNat [] h (by simp)
      refine ⟨h1.1, fun e => ?_⟩
      rw [h1.2 e]
      have hf := tk_facts zs 0 0 (by omega) h (by omega) (by simp)
      simp
      omega
  · rename_i ht
    exact ⟨by simp, fun e => absurd e ht⟩
def zE : Ed := ⟨[], [], 0, 0, 0, 0, 0⟩
/-- What Read returns. -/
def RdA (r : Option Ed) (w : World) (e : Ending) (w' : World) : Prop := (match r with
  | none => e = .returned (.tuple #[edV none 0 0 none 0 0 zE, .int .i64 3])
  | some E => ∃ da dc aa ac, e = .returned (.tuple #[edV da E.d.length dc aa E.a.length ac E, .int .i64 0]) ∧ Zs w' da E.d.length dc E.d ∧ Fs w' aa E.a.length ac E.a) ∧ Below w.heap.size w w'
theorem read_results {w : World} {R : Nat} {d v : Value} {A B C D E e : Int} (h : Ek w R #[d, v, .int .i64 A, .int .u64 B, .int .u64 C, .int .u64 D, .int .u64 E] 31) (ts : Array Value) (h2 : ts.getD 2 undef = .pointer (some ⟨R, 0, none⟩)) (h3 : ts.getD 3 undef = .int .i64 e) :
    (results Try.f17 ts).run Try.prog w = .ok (.tuple #[.agg #[d, v, .int .i64 A, .int .u64 B, .int .u64 C, .int .u64 D, .int .u64 E], .int .i64 e]) w := by
  have c0 := h.cell (o := 0) rfl
  have c1 := h.cell (o := 1) rfl
  have c2 := h.cell (o := 2) rfl
  have c3 := h.cell (o := 3) rfl
  have c4 := h.cell (o := 4) rfl
  have c5 := h.cell (o := 5) rfl
  have c6 := h.cell (o := 6) rfl
  rw [Array.getD_eq_getD_getElem?] at h2 h3
  simp [results, Try.results17, go_sem, c0, c1, c2, c3, c4, c5, c6, h2, h3]
/-- A store of seven cells. -/
def set7 (W : World) (R : Nat) (u0 u1 u2 u3 u4 u5 u6 : Value) : World := ((((((W.setCell ⟨R, 0, none⟩ u0).setCell ⟨R, 1, none⟩ u1).setCell ⟨R, 2, none⟩ u2).setCell ⟨R, 3, none⟩ u3).setCell ⟨R, 4, none⟩ u4).setCell ⟨R, 5, none⟩ u5).setCell ⟨R, 6, none⟩ u6
theorem eset7 {W : World} {R : Nat} {a0 a1 a2 a3 a4 a5 a6 : Value} {T : TypeId} (hz : Ek W R #[a0, a1, a2, a3, a4, a5, a6] T) (u0 u1 u2 u3 u4 u5 u6 : Value) : Ek (set7 W R u0 u1 u2 u3 u4 u5 u6) R #[u0, u1, u2, u3, u4, u5, u6] T := by
  have h0 : Ek _ R #[u0, a1, a2, a3, a4, a5, a6] T := hz.set 0 u0
  have h1 : Ek _ R #[u0, u1, a2, a3, a4, a5, a6] T := h0.set 1 u1
  have h2 : Ek _ R #[u0, u1, u2, a3, a4, a5, a6] T := h1.set 2 u2
  have h3 : Ek _ R #[u0, u1, u2, u3, a4, a5, a6] T := h2.set 3 u3
  have h4 : Ek _ R #[u0, u1, u2, u3, u4, a5, a6] T := h3.set 4 u4
  have h5 : Ek _ R #[u0, u1, u2, u3, u4, u5, a6] T := h4.set 5 u5
  exact h5.set 6 u6
theorem gset7 (W : World) (R : Nat) (u0 u1 u2 u3 u4 u5 u6 : Value) : W.grownBy (set7 W R u0 u1 u2 u3 u4 u5 u6) (some R) :=
  egrow (k := 6) (u := u6) (egrow (k := 5) (u := u5) (egrow (k := 4) (u := u4) (egrow (k := 3) (u := u3) (egrow (k := 2) (u := u2) (egrow (k := 1) (u := u1) (fgb_set W ⟨R, 0, none⟩ u0))))))
def zE7 : Array Value := #[.slice none 0 0, .slice none 0 0, .int .i64 0, .int .u64 0, .int .u64 0, .int .u64 0, .int .u64 0]
/-- Between the steps of Read. -/
structure RS (w : World) (R Q : Nat) (dd : Option Addr) (dn dc : Nat) (ds : List Int) (W : World) (s : List Int × Bool) (cs : Array Value) (fv : Value) (fl : List Fi) : Prop where
  rd : Rdr W w.heap.size R s
  q : Ek W Q cs 31
  own : OwnF W (Q + 1) fv fl
  zs : Zs W dd dn dc ds
  zb : ∀ a, dd = some a → R < a.block ∧ a.block < Q
  z : Ek W w.heap.size zE7 31
  bel : Below w.heap.size w W
  sz : Q + 1 ≤ W.heap.size
  rq : w.heap.size < R ∧ R < Q
theorem Zs.gb {w w' : World} {row : Option Nat} {ao : Option Addr} {n c : Nat} {l : List Int} (h : Zs w ao n c l) (hg : w.grownBy w' row) (hne : ∀ a, ao = some a → some a.block ≠ row) : Zs w' ao n c l := by
  refine ⟨h.1, h.2.1, h.2.2.1, fun h0 => ?_⟩
  obtain ⟨b, off, e, hc⟩ := h.2.2.2 h0
  refine ⟨b, off, e, fun i z hz => ?_⟩
  have := hc i z hz
  exact gb_cells hg (World.block_lt_of_cell? w _ this) (by have := hne _ e; exact this) _ _ this
section
variable {w : World} {R Q : Nat} {dd : Option Addr} {dn dc : Nat} {ds : List Int} {W W' : World} {s s' : List Int × Bool} {cs : Array Value} {fv fv' : Value} {fl fl' : List Fi}
theorem RS.drew (h : RS w R Q dd dn dc ds W s cs fv fl) : RS w R Q dd dn dc ds W.drew s cs fv fl := ⟨h.rd.keep (Below.refl _ W).drew, h.q.drew, h.own.drew, h.zs.below (Below.refl _ W).drew (Nat.le_refl _), h.zb, h.z.drew, h.bel.drew, h.sz, h.rq⟩
theorem RS.take (h : RS w R Q dd dn dc ds W s cs fv fl) (hg : W.grownBy W' (some R)) (hr : Rdr W' w.heap.size R s') : RS w R Q dd dn dc ds W' s' cs fv fl := by
  have hrq := h.rq
  refine ⟨hr, h.q.gb hg (fun e => ?_), ownF_grown h.own hg (fun k hk => ?_), h.zs.gb hg (fun a ha e => ?_), h.zb, h.z.gb hg (fun e => ?_), h.bel.grown hg h.bel.size (fun k hk => ?_), Nat.le_trans h.sz hg.size, hrq⟩
  · have : Q = R := Option.some.inj e; omega
  · have : R = k := Option.some.inj hk; omega
  · have h1 : a.block = R := Option.some.inj e; have := h.zb a ha; omega
  · have : w.heap.size = R := Option.some.inj e; omega
  · have : R = k := Option.some.inj hk; omega
theorem RS.setq (h : RS w R Q dd dn dc ds W s cs fv fl) (k : Nat) (u : Value) : RS w R Q dd dn dc ds (W.setCell ⟨Q, k, none⟩ u) s (cs.setIfInBounds k u) fv fl := by
  have hrq := h.rq
  have hg := fgb_set W ⟨Q, k, none⟩ u
  refine ⟨h.rd.gb hg (fun e => ?_) (fun k hk => ?_), h.q.set k u, ownF_grown h.own hg (fun k hk => ?_), h.zs.gb hg (fun a ha e => ?_), h.zb, h.z.gb hg (fun e => ?_), h.bel.grown hg h.bel.size (fun k hk => ?_), Nat.le_trans h.sz hg.size, hrq⟩
  · have : R = Q := Option.some.inj e; omega
  · have : Q = k := Option.some.inj hk; omega
  · have : Q = k := Option.some.inj hk; omega
  · have h1 : a.block = Q := Option.some.inj e; have := h.zb a ha; omega
  · have : w.heap.size = Q := Option.some.inj e; omega
  · have : Q = k := Option.some.inj hk; omega
theorem RS.keep (h : RS w R Q dd dn dc ds W s cs fv fl) (hb : Below W.heap.size W W') : RS w R Q dd dn dc ds W' s cs fv fl :=
  ⟨h.rd.keep hb, h.q.below hb h.q.lt, ownF_keep h.own hb, h.zs.below hb (Nat.le_refl _), h.zb, h.z.below hb h.z.lt, h.bel.trans (hb.mono h.bel.size), Nat.le_trans h.sz hb.size, h.rq⟩
theorem RS.row (h : RS w R Q dd dn dc ds W s cs fv fl) {row : Option Nat} (hg : W.grownBy W' row) (hk : ∀ k, row = some k → Q + 1 ≤ k) (ho : OwnF W' (Q + 1) fv' fl') : RS w R Q dd dn dc ds W' s cs fv' fl' := by
  have hrq := h.rq
  refine ⟨h.rd.gb hg (fun e => ?_) (fun k e => ?_), h.q.gb hg (fun e => ?_), ho, h.zs.gb hg (fun a ha e => ?_), h.zb, h.z.gb hg (fun e => ?_), h.bel.grown hg h.bel.size (fun k e => ?_), Nat.le_trans h.sz hg.size, hrq⟩
  · have := hk _ e.symm; omega
  · have := hk _ e; omega
  · have := hk _ e.symm; omega
  · have h1 := h.zb a ha; have := hk _ e.symm; omega
  · have := hk _ e.symm; omega
  · have := hk _ e; omega
end
theorem sm_range {z : Int} (h : 0 ≤ z) : -1 ≤ sm z ∧ sm z ≤ 1073741824 := by unfold sm; split <;> omega

end Go.Proofs.Ytgopcaemgcnapaa.Clep

/- What edit.Read does when called (a walk over the translated program): for any bytes of at most a million. -/
namespace Go.Proofs.Ytgopcaemgcnapaa.Clep
open Go.RowKit
set_option linter.unusedVariables false
set_option maxRecDepth 10000

section
attribute [local go_sem ↓] cut_l
set_option maxHeartbeats 4000000 in
theorem read_any (ao : Option Addr) (len cap : Nat) (zs : List Int) (w : World) (hm : len ≤ 1000000) (hcm : cap ≤ 9223372036854775807) (h : Bs w ao len cap zs) :
    Calls Try.prog 17 #[.slice ao len cap] w (RdA (red zs) w) := by
  have hzl := h.1
  have hbr := bs_range h
  have HB := hide h
  have HBR := hide (show ByteL zs from hbr)
  have HRF := hide (red_form zs)
  have HRN := hide (show red zs = none → ∀ W, Below w.heap.size w W → RdA (red zs) w (.returned (.tuple #[edV none 0 0 none 0 0 zE, .int .i64 3])) W from fun e W hW => by rw [e]; exact ⟨rfl, hW⟩)
  have HRS := hide (show ∀ E W da dc aa ac, red zs = some E → Zs W da E.d.length dc E.d → Fs W aa E.a.length ac E.a → Below w.heap.size w W → RdA (red zs) w (.returned (.tuple #[edV da E.d.length dc aa E.a.length ac E, .int .i64 0])) W from fun E W da dc aa ac e h1 h2 h3 => by rw [e]; exact ⟨⟨da, dc, aa, ac, rfl, h1, h2⟩, h3⟩)
  have HOK := hide (show okR zs = (decide ((ul zs 40).2.2 = 0) && (decide (cX zs ≤ 40) && (!(stN (s1X zs) (2 * (cX zs).toNat + 5)).2 && decide ((stN (s1X zs) (2 * (cX zs).toNat + 5)).1.length = 0)))) from rfl)
  have HUP := hide (ul_place zs 40)
  have HUN := hide (ul_nums zs 40 hbr (by omega))
  have HSM := hide (show smE (rawE zs) = ⟨(ul zs 40).1.map sm, (fX zs (cX zs).toNat).map smF, sm (nr (s1X zs) (2 * (cX zs).toNat)), nr (s1X zs) (2 * (cX zs).toNat + 1), nr (s1X zs) (2 * (cX zs).toNat + 2), nr (s1X zs) (2 * (cX zs).toNat + 3), nr (s1X zs) (2 * (cX zs).toNat + 4)⟩ from rfl)
  have CU := hide (fun W (hW : Below w.heap.size w W) => unlist_any ao len cap zs 40 W (by omega) hcm (h.below hW (Nat.le_refl _)) (by omega) (by omega) (ul zs 40) (hide rfl))
  have HS0 := hide (show s0X zs = (zs.drop (ul zs 40).2.1.toNat, false) from rfl)
  generalize RdA (red zs) w = RR at *
  obtain ⟨d0, sz, er, hu⟩ : ∃ d sz er, ul zs 40 = (d, sz, er) := ⟨_, _, _, rfl⟩
  rw [hu] at HOK HUP HUN HSM CU HS0
  simp only at HOK HUP HUN HSM CU HS0
  unfold edV zE at HRN
  unfold edV at HRS
  simp only at HRN
  clear h hbr hu
  have A0 := (Below.refl w.heap.size w).alloc (Nat.le_refl _) (Obj.cells #[.slice none 0 0, .slice none 0 0, .int .i64 0, .int .u64 0, .int .u64 0, .int .u64 0, .int .u64 0] 31)
  have HB0 := hide A0
  have HZ0 := hide (ek_new w #[.slice none 0 0, .slice none 0 0, .int .i64 0, .int .u64 0, .int .u64 0, .int .u64 0, .int .u64 0] 31)
  have HSA := hide (show (w.alloc (Obj.cells #[.slice none 0 0, .slice none 0 0, .int .i64 0, .int .u64 0, .int .u64 0, .int .u64 0, .int .u64 0] 31)).heap.size = w.heap.size + 1 by simp)
  clear A0
  go_enter Try.func17, Try.ntmps17
  go_wp2_with fail
  refine (CU.out _ HB0.out).mono ?_
  rintro e w1 ⟨v1, rfl, ho1, hb1⟩
  have HZ1 := hide (HZ0.out.below hb1 HZ0.out.lt)
  have HB1 := hide (HB0.out.trans (hb1.mono HB0.out.size))
  have HO1 := hide ho1
  have hl1 : w.heap.size + 1 ≤ w1.heap.size := by rw [← HSA.out]; exact hb1.size
  clear CU ho1 hb1 HB0 HZ0 HSA
  by_cases her : er = 0
  · subst her
    have hup := HUP.out rfl
    have hun := HUN.out
    have hdl : (d0.length : Int) ≤ 40 := hun.2 rfl
    rw [show decide ((0 : Int) = 0) = true from rfl, Bool.true_and] at HOK
    obtain ⟨sn, rfl⟩ := Int.eq_ofNat_of_zero_le hup.1
    simp only [Int.toNat_natCast] at HS0
    have hsn : (sn : Int) ≤ (len : Int) := by omega
    have hs0n : (0 : Int) ≤ (sn : Int) := by omega
    have HBW := hide (HB.out.below HB1.out (Nat.le_refl _))
    have HRD := hide (show Rdr (w1.alloc (Obj.cells #[.slice (cut ao cap sn) (len - sn) (cap - sn), .bool false] 88)) w.heap.size w1.heap.size (s0X zs) from by
      have hcut := HBW.out.cut sn len (by omega) (Nat.le_refl _)
      rw [List.take_of_length_le (by omega)] at hcut
      rw [HS0.out]
      refine ⟨_, _, _, ek_new w1 _ _, hcut.below ((Below.refl _ w1).alloc (Nat.le_refl _) _) (Nat.le_refl _), by omega, fun h0 a ha => ?_, by omega⟩
      obtain ⟨b, off, e1, hc⟩ := HB.out.2.2.2 (by omega)
      refine ecut_block (fun x hx => ?_) a ha
      rw [e1] at hx
      cases hx
      exact World.block_lt_of_cell? w _ (hc 0 (by omega)))
    have hA1 := (Below.refl _ w1).alloc (Nat.le_refl _) (Obj.cells #[.slice (cut ao cap sn) (len - sn) (cap - sn), .bool false] 88)
    have CS := hide (smalls_any v1 d0 _ _ (ownU_below HO1.out hA1) hun.1 (by omega))
    have HA1 := hide hA1
    have HSB := hide (show (w1.alloc (Obj.cells #[.slice (cut ao cap sn) (len - sn) (cap - sn), .bool false] 88)).heap.size = w1.heap.size + 1 by simp)
    have HDR := hide (show ∀ z ∈ d0.map sm, -9223372036854775808 ≤ z ∧ z ≤ 9223372036854775807 from fun z hz => by
      obtain ⟨y, hy, rfl⟩ := List.mem_map.1 hz
      have := sm_range (hun.1 y hy).1
      omega)
    clear HUP HUN hun hA1
    go_wp2_with fail
    refine CS.out.mono ?_
    rintro e w2 ⟨v2, rfl, ho2, hb2⟩
    obtain ⟨dd, dc, hv2, hdc, hzs2, hzb2⟩ := ownZ_zs ho2 HDR.out
    obtain ⟨dn, hdn⟩ : ∃ dn, (d0.map sm).length = dn := ⟨_, rfl⟩
    have HDN := hide hdn
    rw [hdn] at hv2 hzs2
    subst hv2
    have HB2 := hide ((HB1.out.trans (HA1.out.mono HB1.out.size)).trans (hb2.mono (by rw [HSB.out]; omega)))
    have hA2 := (Below.refl _ w2).alloc (Nat.le_refl _) (Obj.cells #[.slice dd dn dc, .slice none 0 0, .int .i64 0, .int .u64 0, .int .u64 0, .int .u64 0, .int .u64 0] 31)
    have hs2 : w1.heap.size + 1 ≤ w2.heap.size := by rw [← HSB.out]; exact hb2.size
    have ST := hide (show RS w w1.heap.size w2.heap.size dd dn dc (d0.map sm) (w2.alloc (Obj.cells #[.slice dd dn dc, .slice none 0 0, .int .i64 0, .int .u64 0, .int .u64 0, .int .u64 0, .int .u64 0] 31)) (s0X zs) #[.slice dd dn dc, .slice none 0 0, .int .i64 0, .int .u64 0, .int .u64 0, .int .u64 0, .int .u64 0] (.slice none 0 0) [] from
      ⟨(HRD.out.keep hb2).keep hA2, ek_new w2 _ _, ownF_nil _ _, hzs2.below hA2 (Nat.le_refl _), fun a ha => (by
        have h1 := World.ownsRow.lt ho2 a.block (by rw [ha]; rfl)
        rw [HSB.out] at h1
        omega), ((HZ1.out.below HA1.out HZ1.out.lt).below hb2 (Nat.lt_of_lt_of_le HZ1.out.lt HA1.out.size)).below hA2 (by omega), HB2.out.trans (hA2.mono HB2.out.size), by simp, by omega⟩)
    have CT := hide (rdtake_any w.heap.size w1.heap.size (s0X zs) _ ST.out.rd (by rw [HS0.out]; simp; omega))
    have hRQ : w1.heap.size < w2.heap.size := by omega
    clear CS ho2 hb2 hzs2 hzb2 hA2 HA1 HRD HBW HZ1 HO1 hdn
    go_wp2_with fail
    refine CT.out.mono ?_
    rintro e w3 ⟨rfl, hrd3, hg3⟩
    have ST3 := hide (ST.out.take hg3 hrd3)
    clear CT hrd3 hg3 ST
    have hcr := (rt_range (s0X zs) (by rw [HS0.out]; exact fun z hz => HBR.out z (List.mem_of_mem_drop hz))).1
    have HB3 := hide (show ByteL (s1X zs).1 from (rt_range (s0X zs) (by rw [HS0.out]; exact fun z hz => HBR.out z (List.mem_of_mem_drop hz))).2)
    have HL3 := hide (show (s1X zs).1.length ≤ 1000000 from Nat.le_trans (rt_len (s0X zs)) (by rw [HS0.out]; simp; omega))
    have HCX := hide (show (rt (s0X zs)).1 = cX zs from rfl)
    have HS1 := hide (show (rt (s0X zs)).2 = s1X zs from rfl)
    rw [HS1.out] at ST3
    rw [HCX.out] at hcr
    rw [HCX.out]
    clear HCX HS1 HS0
    have HFX := hide (show ∀ n, fX zs (n + 1) = fX zs n ++ [⟨nr (s1X zs) (2 * n), nr (s1X zs) (2 * n + 1)⟩] from fX_next zs)
    have HFW := hide (show ∀ n, ∀ x ∈ (fX zs n).map smF, x.wf from fun n x hx => by
      obtain ⟨f, hf, rfl⟩ := List.mem_map.1 hx
      obtain ⟨k, hk, rfl⟩ := List.mem_map.1 hf
      have h1 := sm_range (nr_range (s1X zs) HB3.out (2 * k)).1
      have h2 := sm_range (nr_range (s1X zs) HB3.out (2 * k + 1)).1
      unfold smF Fi.wf
      simp only
      omega)
    generalize s1X zs = s1 at *
    generalize hRR : w1.heap.size = R at *
    generalize hQQ : w2.heap.size = Q at *
    clear hRR hQQ
    obtain ⟨c, hc⟩ := Int.eq_ofNat_of_zero_le hcr.1
    have HC := hide hc
    rw [hc] at HOK HSM hcr
    simp only [Int.toNat_natCast] at HOK HSM
    rw [hc]
    by_cases hc40 : (c : Int) ≤ 40
    · have hcg : ¬ ((40 : Int) < (c : Int)) := by omega
      rw [show decide ((c : Int) ≤ 40) = true from decide_eq_true hc40, Bool.true_and] at HOK
      have HTK := hide (show ∀ (W : World) (s : List Int × Bool), Rdr W w.heap.size R s → s.1.length ≤ 1000000 → Calls Try.prog 42 #[.pointer (some ⟨R, 0, none⟩)] W fun e w' => e = .returned (.int .u64 (rt s).1) ∧ Rdr w' w.heap.size R (rt s).2 ∧ W.grownBy w' (some R) from fun W s h1 h2 => rdtake_any w.heap.size R s W h1 h2)
      have HLL := hide (show ∀ j, (stN s1 j).1.length ≤ 1000000 from fun j => Nat.le_trans (stN_len s1 j) HL3.out)
      have HNR := hide (fun j => nr_range s1 HB3.out j)
      clear hc
      go_wp2_with fail
      go_loopw [32] (fun s wr => ∃ i : Nat, i ≤ c ∧ s = .int .u64 i ∧ Hid (∃ a k, RS w R Q dd dn dc (d0.map sm) wr (stN s1 (2 * i)) #[.slice dd dn dc, .slice a i k, .int .i64 0, .int .u64 0, .int .u64 0, .int .u64 0, .int .u64 0] (.slice a i k) ((fX zs i).map smF))) (fun s _ => c - (intOf s).toNat)
      case atStart => exact ⟨0, by omega, rfl, hide ⟨none, 0, ST3.out⟩⟩
      case round =>
        obtain ⟨i, hi, rfl, hst⟩ := hrel
        obtain ⟨fa, fk, st⟩ := hst.out
        have S0 := hide st
        clear hst st ST3
        by_cases hlt : i < c
        · have C1 := hide (HTK.out wr _ S0.out.rd (HLL.out _))
          have hqi : (i : Int) < (c : Int) := by omega
          go_wp2_with fail
          refine C1.out.mono ?_
          rintro e w4 ⟨rfl, hrd4, hg4⟩
          have S4 := hide (S0.out.take hg4 hrd4)
          have HX1 := hide (show (rt (stN s1 (2 * i))).1 = nr s1 (2 * i) from rfl)
          have HX2 := hide (show (rt (stN s1 (2 * i))).2 = stN s1 (2 * i + 1) from rfl)
          rw [HX1.out]
          rw [HX2.out] at S4
          have C2 := hide (small_any (nr s1 (2 * i)) w4 (HNR.out _).1)
          clear C1 hrd4 hg4 S0 HX1 HX2
          go_wp2_with fail
          refine C2.out.mono ?_
          rintro e w5 ⟨rfl, hw5⟩
          subst hw5
          have C3 := hide (HTK.out w5.drew _ S4.out.drew.rd (HLL.out _))
          have q1 : w5.cell? ⟨Q, 1, none⟩ = some (.slice fa i fk) := S4.out.q.cell rfl
          have hQl : Q < w5.heap.size := S4.out.q.lt
          obtain ⟨lv, hlv⟩ : ∃ lv, sm (nr s1 (2 * i)) = lv := ⟨_, rfl⟩
          have HLV := hide hlv
          rw [hlv]
          obtain ⟨nm, hnm⟩ : ∃ nm, sm (nr s1 (2 * i + 1)) = nm := ⟨_, rfl⟩
          have HNM := hide hnm
          have HFN := hide (show (fX zs i).map smF ++ [⟨lv, nm⟩] = (fX zs (i + 1)).map smF from by rw [HFX.out, List.map_append, ← hlv, ← hnm]; rfl)
          have hl0 := sm_range (HNR.out (2 * i)).1
          have hl1' := sm_range (HNR.out (2 * i + 1)).1
          have HWF := hide (show Fi.wf ⟨lv, nm⟩ from by rw [← hlv, ← hnm]; unfold Fi.wf; simp only; omega)
          have HLE := hide (show ((fX zs i).map smF).length + 1 ≤ 3518437208883 from by rw [List.length_map, fX_len]; omega)
          have HL8 := hide (show ((fX zs (i + 1)).map smF).length = i + 1 from by rw [List.length_map, fX_len])
          have HWF8 := hide (show ∀ x ∈ (fX zs (i + 1)).map smF, x.wf from HFW.out (i + 1))
          clear C2 hlv hnm hl0 hl1'
          go_wp2_with fail
          go_region_law (first
            | (refine step_append_files rfl (.tmp 37) (.tmp 42) rfl (Q + 1) _ ((fX zs i).map smF) (by first | rfl | simp [Act.eval, Act.put]) HO7.out (some ⟨w7.heap.size, 0, none⟩) 1 1 [⟨lv, nm⟩] (by first | rfl | simp [Act.eval, Act.put]) HF7.out HLE.out HSZ7.out ?_; intro v8 w8 o8 g8 k8; have S8 := hide (S7.out.row g8 k8 o8); have o9 : OwnF w8 (Q + 1) v8 ((fX zs (i + 1)).map smF) := (HFN.out ▸ o8); obtain ⟨a8, c8, hv8, _, _, _⟩ := ownF_fs o9 HWF8.out; rw [HL8.out] at hv8; subst hv8; have q8 : w8.cell? ⟨Q, 1, none⟩ = some (.slice fa i fk) := S8.out.q.cell rfl; have f8 := S8.out.q.free 1; clear o8 g8 k8)
            | (go_simp; refine C3.out.mono ?_; rintro e w6 ⟨rfl, hrd6, hg6⟩; have S6 := hide (S4.out.drew.take hg6 hrd6); have C4 := hide (small_any _ w6 (HNR.out (2 * i + 1)).1); have q6 : w6.cell? ⟨Q, 1, none⟩ = some (.slice fa i fk) := S6.out.q.cell rfl; have hQ6 : Q < w6.heap.size := S6.out.q.lt; clear hrd6 hg6)
            | (go_simp; refine C4.out.mono ?_; rintro e w7 ⟨rfl, hw7⟩; subst hw7; rw [HNM.out]; have S7 := hide (S6.out.keep ((Below.refl _ w7).alloc (Nat.le_refl _) (Obj.cells #[.int .i64 lv, .int .i64 nm] 29))); have HO7 := hide S7.out.own; have HSZ7 := hide S7.out.sz; have HF7 := hide (fs_block HWF.out (fhpS w7 (Obj.cells #[.int .i64 lv, .int .i64 nm] 29) _ rfl))))
          all_goals
            clear q1 q6 C3 C4
            go_wp2
            go_roundw
            case rel => exact ⟨i + 1, by omega, by go_num, hide ⟨a8, c8, by have := S8.out.setq 1 (.slice a8 (i + 1) c8); rw [HFN.out] at this; exact this⟩⟩
            case measure => simp [intOf]; omega
        · obtain rfl : i = c := by omega
          have hqi : ¬ ((i : Int) < (i : Int)) := by omega
          have C0 := hide (HTK.out wr _ S0.out.rd (HLL.out _))
          go_wp2_with fail
          refine C0.out.mono ?_
          rintro e x1 ⟨rfl, hrd, hg⟩
          have T1 := hide (show RS w R Q dd dn dc (d0.map sm) x1 (stN s1 (2 * i + 1)) _ _ _ from S0.out.take hg hrd)
          rw [show (rt (stN s1 (2 * i))).1 = nr s1 (2 * i) from rfl]
          clear hrd hg C0 S0
          have q1 : x1.cell? ⟨Q, 2, none⟩ = some (.int .i64 0) := T1.out.q.cell rfl
          have f1 := T1.out.q.free 2
          have CS0 := hide (small_any (nr s1 (2 * i)) x1 (HNR.out _).1)
          go_wp2_with fail
          refine CS0.out.mono ?_
          rintro e x1b ⟨rfl, hx⟩
          subst hx
          clear CS0
          have S1 := hide (T1.out.setq 2 (.int .i64 (sm (nr s1 (2 * i)))))
          have C1 := hide (HTK.out _ _ S1.out.rd (HLL.out _))
          clear T1
          go_wp2_with fail
          refine C1.out.mono ?_
          rintro e x2 ⟨rfl, hrd, hg⟩
          have T2 := hide (show RS w R Q dd dn dc (d0.map sm) x2 (stN s1 (2 * i + 2)) _ _ _ from S1.out.take hg hrd)
          rw [show (rt (stN s1 (2 * i + 1))).1 = nr s1 (2 * i + 1) from rfl]
          clear hrd hg C1 S1
          have q2 : x2.cell? ⟨Q, 3, none⟩ = some (.int .u64 0) := T2.out.q.cell rfl
          have f2 := T2.out.q.free 3
          have S2 := hide (T2.out.setq 3 (.int .u64 (nr s1 (2 * i + 1))))
          have C2 := hide (HTK.out _ _ S2.out.rd (HLL.out _))
          clear T2
          go_wp2_with fail
          refine C2.out.mono ?_
          rintro e x3 ⟨rfl, hrd, hg⟩
          have T3 := hide (show RS w R Q dd dn dc (d0.map sm) x3 (stN s1 (2 * i + 3)) _ _ _ from S2.out.take hg hrd)
          rw [show (rt (stN s1 (2 * i + 2))).1 = nr s1 (2 * i + 2) from rfl]
          clear hrd hg C2 S2
          have q3 : x3.cell? ⟨Q, 4, none⟩ = some (.int .u64 0) := T3.out.q.cell rfl
          have f3 := T3.out.q.free 4
          have S3 := hide (T3.out.setq 4 (.int .u64 (nr s1 (2 * i + 2))))
          have C3 := hide (HTK.out _ _ S3.out.rd (HLL.out _))
          clear T3
          go_wp2_with fail
          refine C3.out.mono ?_
          rintro e x4 ⟨rfl, hrd, hg⟩
          have T4 := hide (show RS w R Q dd dn dc (d0.map sm) x4 (stN s1 (2 * i + 4)) _ _ _ from S3.out.take hg hrd)
          rw [show (rt (stN s1 (2 * i + 3))).1 = nr s1 (2 * i + 3) from rfl]
          clear hrd hg C3 S3
          have q4 : x4.cell? ⟨Q, 5, none⟩ = some (.int .u64 0) := T4.out.q.cell rfl
          have f4 := T4.out.q.free 5
          have S4 := hide (T4.out.setq 5 (.int .u64 (nr s1 (2 * i + 3))))
          have C4 := hide (HTK.out _ _ S4.out.rd (HLL.out _))
          clear T4
          go_wp2_with fail
          refine C4.out.mono ?_
          rintro e x5 ⟨rfl, hrd, hg⟩
          have T5 := hide (show RS w R Q dd dn dc (d0.map sm) x5 (stN s1 (2 * i + 5)) _ _ _ from S4.out.take hg hrd)
          rw [show (rt (stN s1 (2 * i + 4))).1 = nr s1 (2 * i + 4) from rfl]
          clear hrd hg C4 S4
          have q5 : x5.cell? ⟨Q, 6, none⟩ = some (.int .u64 0) := T5.out.q.cell rfl
          have f5 := T5.out.q.free 6
          have S5 := hide (T5.out.setq 6 (.int .u64 (nr s1 (2 * i + 4))))
          have SF := hide (show RS w R Q dd dn dc (d0.map sm) (x5.setCell ⟨Q, 6, none⟩ (.int .u64 (nr s1 (2 * i + 4)))) (stN s1 (2 * i + 5)) #[.slice dd dn dc, .slice fa i fk, .int .i64 (sm (nr s1 (2 * i))), .int .u64 (nr s1 (2 * i + 1)), .int .u64 (nr s1 (2 * i + 2)), .int .u64 (nr s1 (2 * i + 3)), .int .u64 (nr s1 (2 * i + 4))] (.slice fa i fk) ((fX zs i).map smF) from S5.out)
          clear T5 S5
          obtain ⟨la, ln, lc, hekR, hbsR, hlc, _, _⟩ := SF.out.rd
          have hlnl := hbsR.1
          obtain ⟨rf, hrf⟩ : ∃ rf, (stN s1 (2 * i + 5)).2 = rf := ⟨_, rfl⟩
          rw [hrf] at HOK hekR
          simp only [hlnl] at HOK
          have HEKR := hide hekR
          have HZF := hide SF.out.z
          have HBF := hide SF.out.bel
          clear hbsR hekR hrf hlc HTK HLL q1 f1 q2 f2 q3 f3 q4 f4
          have r1 : (x5.setCell ⟨Q, 6, none⟩ (.int .u64 (nr s1 (2 * i + 4)))).cell? ⟨R, 1, none⟩ = some (.bool rf) := HEKR.out.cell rfl
          have r0 : (x5.setCell ⟨Q, 6, none⟩ (.int .u64 (nr s1 (2 * i + 4)))).cell? ⟨R, 0, none⟩ = some (.slice la ln lc) := HEKR.out.cell rfl
          have z0 : (x5.setCell ⟨Q, 6, none⟩ (.int .u64 (nr s1 (2 * i + 4)))).cell? ⟨w.heap.size, 0, none⟩ = some (.slice none 0 0) := (HZF.out).cell rfl
          have y0 : (x5.setCell ⟨Q, 6, none⟩ (.int .u64 (nr s1 (2 * i + 4)))).frozen? ⟨w.heap.size, 0, none⟩ = false := (HZF.out).free 0
          have z1 : (x5.setCell ⟨Q, 6, none⟩ (.int .u64 (nr s1 (2 * i + 4)))).cell? ⟨w.heap.size, 1, none⟩ = some (.slice none 0 0) := (HZF.out).cell rfl
          have y1 : (x5.setCell ⟨Q, 6, none⟩ (.int .u64 (nr s1 (2 * i + 4)))).frozen? ⟨w.heap.size, 1, none⟩ = false := (HZF.out).free 1
          have z2 : (x5.setCell ⟨Q, 6, none⟩ (.int .u64 (nr s1 (2 * i + 4)))).cell? ⟨w.heap.size, 2, none⟩ = some (.int .i64 0) := (HZF.out).cell rfl
          have y2 : (x5.setCell ⟨Q, 6, none⟩ (.int .u64 (nr s1 (2 * i + 4)))).frozen? ⟨w.heap.size, 2, none⟩ = false := (HZF.out).free 2
          have z3 : (x5.setCell ⟨Q, 6, none⟩ (.int .u64 (nr s1 (2 * i + 4)))).cell? ⟨w.heap.size, 3, none⟩ = some (.int .u64 0) := (HZF.out).cell rfl
          have y3 : (x5.setCell ⟨Q, 6, none⟩ (.int .u64 (nr s1 (2 * i + 4)))).frozen? ⟨w.heap.size, 3, none⟩ = false := (HZF.out).free 3
          have z4 : (x5.setCell ⟨Q, 6, none⟩ (.int .u64 (nr s1 (2 * i + 4)))).cell? ⟨w.heap.size, 4, none⟩ = some (.int .u64 0) := (HZF.out).cell rfl
          have y4 : (x5.setCell ⟨Q, 6, none⟩ (.int .u64 (nr s1 (2 * i + 4)))).frozen? ⟨w.heap.size, 4, none⟩ = false := (HZF.out).free 4
          have z5 : (x5.setCell ⟨Q, 6, none⟩ (.int .u64 (nr s1 (2 * i + 4)))).cell? ⟨w.heap.size, 5, none⟩ = some (.int .u64 0) := (HZF.out).cell rfl
          have y5 : (x5.setCell ⟨Q, 6, none⟩ (.int .u64 (nr s1 (2 * i + 4)))).frozen? ⟨w.heap.size, 5, none⟩ = false := (HZF.out).free 5
          have z6 : (x5.setCell ⟨Q, 6, none⟩ (.int .u64 (nr s1 (2 * i + 4)))).cell? ⟨w.heap.size, 6, none⟩ = some (.int .u64 0) := (HZF.out).cell rfl
          have y6 : (x5.setCell ⟨Q, 6, none⟩ (.int .u64 (nr s1 (2 * i + 4)))).frozen? ⟨w.heap.size, 6, none⟩ = false := (HZF.out).free 6
          have e0 : (x5.setCell ⟨Q, 6, none⟩ (.int .u64 (nr s1 (2 * i + 4)))).cell? ⟨Q, 0, none⟩ = some (.slice dd dn dc) := SF.out.q.cell rfl
          have e1 : (x5.setCell ⟨Q, 6, none⟩ (.int .u64 (nr s1 (2 * i + 4)))).cell? ⟨Q, 1, none⟩ = some (.slice fa i fk) := SF.out.q.cell rfl
          have e2 : (x5.setCell ⟨Q, 6, none⟩ (.int .u64 (nr s1 (2 * i + 4)))).cell? ⟨Q, 2, none⟩ = some (.int .i64 (sm (nr s1 (2 * i)))) := SF.out.q.cell rfl
          have e3 : (x5.setCell ⟨Q, 6, none⟩ (.int .u64 (nr s1 (2 * i + 4)))).cell? ⟨Q, 3, none⟩ = some (.int .u64 (nr s1 (2 * i + 1))) := SF.out.q.cell rfl
          have e4 : (x5.setCell ⟨Q, 6, none⟩ (.int .u64 (nr s1 (2 * i + 4)))).cell? ⟨Q, 4, none⟩ = some (.int .u64 (nr s1 (2 * i + 2))) := SF.out.q.cell rfl
          have e5 : (x5.setCell ⟨Q, 6, none⟩ (.int .u64 (nr s1 (2 * i + 4)))).cell? ⟨Q, 5, none⟩ = some (.int .u64 (nr s1 (2 * i + 3))) := SF.out.q.cell rfl
          have e6 : (x5.setCell ⟨Q, 6, none⟩ (.int .u64 (nr s1 (2 * i + 4)))).cell? ⟨Q, 6, none⟩ = some (.int .u64 (nr s1 (2 * i + 4))) := SF.out.q.cell rfl
          have hQF := SF.out.q.lt
          have CM := hide (show ∀ x, x = (x5.setCell ⟨Q, 6, none⟩ (.int .u64 (nr s1 (2 * i + 4)))) → Calls Try.prog 29 #[.agg #[.slice dd dn dc, .slice fa i fk, .int .i64 (sm (nr s1 (2 * i))), .int .u64 (nr s1 (2 * i + 1)), .int .u64 (nr s1 (2 * i + 2)), .int .u64 (nr s1 (2 * i + 3)), .int .u64 (nr s1 (2 * i + 4))]] x fun e w' => e = .returned (.bool (mayB ⟨d0.map sm, (fX zs i).map smF, sm (nr s1 (2 * i)), nr s1 (2 * i + 1), nr s1 (2 * i + 2), nr s1 (2 * i + 3), nr s1 (2 * i + 4)⟩)) ∧ Below x.heap.size x w' from fun x hx => by
            subst hx
            have hfs := ownF_fsN SF.out.own (HFW.out i) (by rw [List.length_map, fX_len])
            exact maybe_any dd dn dc fa i fk ⟨d0.map sm, (fX zs i).map smF, sm (nr s1 (2 * i)), nr s1 (2 * i + 1), nr s1 (2 * i + 2), nr s1 (2 * i + 3), nr s1 (2 * i + 4)⟩ _ SF.out.zs hfs.2 (by have := HDN.out; rw [List.length_map] at this; omega) (by omega))
          have HOW := hide SF.out.own
          have HZS := hide SF.out.zs
          have HZB := hide SF.out.zb
          have HRQ := hide SF.out.rq
          have HQF := hide SF.out.q
          clear SF
          cases rf with
          | true =>
            have HN := hide (HRN.out (by rw [HRF.out, HOK.out]; rfl))
            clear HRF HOK HSM HRN HRS CM HOW HZS HZB HFX HFW HNR
            go_wp2
            have HZ7 := eset7 (HZF.out) (.slice none 0 0) (.slice none 0 0) (.int .i64 0) (.int .u64 0) (.int .u64 0) (.int .u64 0) (.int .u64 0)
            refine bodyPost_ret (read_results (e := 3) HZ7 _ rfl rfl) rfl ?_
            exact HN.out _ ((HBF.out).grown (gset7 _ w.heap.size _ _ _ _ _ _ _) (HBF.out).size (fun k hk => by have : w.heap.size = k := Option.some.inj hk; omega))
          | false =>
            by_cases hln : ln = 0
            · subst hln
              have hq0 : ¬ ((0 : Int) < ((0 : Nat) : Int)) := by omega
              go_wp2_with fail
              refine (CM.out _ rfl).mono ?_
              rintro e y ⟨rfl, hby⟩
              have HZY := hide (HZF.out.below hby HZF.out.lt)
              have HBY := hide (HBF.out.trans (hby.mono HBF.out.size))
              have HQY := hide (HQF.out.below hby HQF.out.lt)
              have HOY := hide (ownF_keep HOW.out hby)
              have HSY := hide (HZS.out.below hby (Nat.le_refl _))
              obtain ⟨om, hom⟩ : ∃ om, mayB ⟨d0.map sm, (fX zs i).map smF, sm (nr s1 (2 * i)), nr s1 (2 * i + 1), nr s1 (2 * i + 2), nr s1 (2 * i + 3), nr s1 (2 * i + 4)⟩ = om := ⟨_, rfl⟩
              have HOM := hide hom
              rw [hom]
              clear hom CM hby r0 r1 HEKR z0 z1 z2 z3 z4 z5 z6 y0 y1 y2 y3 y4 y5 y6 e0 e1 e2 e3 e4 e5 e6 hQF
              have z0 : y.cell? ⟨w.heap.size, 0, none⟩ = some (.slice none 0 0) := (HZY.out).cell rfl
              have y0 : y.frozen? ⟨w.heap.size, 0, none⟩ = false := (HZY.out).free 0
              have z1 : y.cell? ⟨w.heap.size, 1, none⟩ = some (.slice none 0 0) := (HZY.out).cell rfl
              have y1 : y.frozen? ⟨w.heap.size, 1, none⟩ = false := (HZY.out).free 1
              have z2 : y.cell? ⟨w.heap.size, 2, none⟩ = some (.int .i64 0) := (HZY.out).cell rfl
              have y2 : y.frozen? ⟨w.heap.size, 2, none⟩ = false := (HZY.out).free 2
              have z3 : y.cell? ⟨w.heap.size, 3, none⟩ = some (.int .u64 0) := (HZY.out).cell rfl
              have y3 : y.frozen? ⟨w.heap.size, 3, none⟩ = false := (HZY.out).free 3
              have z4 : y.cell? ⟨w.heap.size, 4, none⟩ = some (.int .u64 0) := (HZY.out).cell rfl
              have y4 : y.frozen? ⟨w.heap.size, 4, none⟩ = false := (HZY.out).free 4
              have z5 : y.cell? ⟨w.heap.size, 5, none⟩ = some (.int .u64 0) := (HZY.out).cell rfl
              have y5 : y.frozen? ⟨w.heap.size, 5, none⟩ = false := (HZY.out).free 5
              have z6 : y.cell? ⟨w.heap.size, 6, none⟩ = some (.int .u64 0) := (HZY.out).cell rfl
              have y6 : y.frozen? ⟨w.heap.size, 6, none⟩ = false := (HZY.out).free 6
              cases om with
              | false =>
                have HN := hide (HRN.out (by rw [HRF.out, HSM.out, HOM.out, Bool.and_false]; rfl))
                clear HRF HOK HSM HRN HRS
                go_wp2
                have HZ7 := eset7 (HZY.out) (.slice none 0 0) (.slice none 0 0) (.int .i64 0) (.int .u64 0) (.int .u64 0) (.int .u64 0) (.int .u64 0)
                refine bodyPost_ret (read_results (e := 3) HZ7 _ rfl rfl) rfl ?_
                exact HN.out _ ((HBY.out).grown (gset7 _ w.heap.size _ _ _ _ _ _ _) (HBY.out).size (fun k hk => by have : w.heap.size = k := Option.some.inj hk; omega))
              | true =>
                have hred : red zs = some ⟨d0.map sm, (fX zs i).map smF, sm (nr s1 (2 * i)), nr s1 (2 * i + 1), nr s1 (2 * i + 2), nr s1 (2 * i + 3), nr s1 (2 * i + 4)⟩ := by rw [HRF.out, HSM.out, HOK.out, HOM.out]; rfl
                have HRED := hide hred
                have e0 : y.cell? ⟨Q, 0, none⟩ = some (.slice dd dn dc) := HQY.out.cell rfl
                have e1 : y.cell? ⟨Q, 1, none⟩ = some (.slice fa i fk) := HQY.out.cell rfl
                have e2 : y.cell? ⟨Q, 2, none⟩ = some (.int .i64 (sm (nr s1 (2 * i)))) := HQY.out.cell rfl
                have e3 : y.cell? ⟨Q, 3, none⟩ = some (.int .u64 (nr s1 (2 * i + 1))) := HQY.out.cell rfl
                have e4 : y.cell? ⟨Q, 4, none⟩ = some (.int .u64 (nr s1 (2 * i + 2))) := HQY.out.cell rfl
                have e5 : y.cell? ⟨Q, 5, none⟩ = some (.int .u64 (nr s1 (2 * i + 3))) := HQY.out.cell rfl
                have e6 : y.cell? ⟨Q, 6, none⟩ = some (.int .u64 (nr s1 (2 * i + 4))) := HQY.out.cell rfl
                clear HRF HOK HSM HRN hred
                go_wp2
                have HZ7 := eset7 HZY.out (.slice dd dn dc) (.slice fa i fk) (.int .i64 (sm (nr s1 (2 * i)))) (.int .u64 (nr s1 (2 * i + 1))) (.int .u64 (nr s1 (2 * i + 2))) (.int .u64 (nr s1 (2 * i + 3))) (.int .u64 (nr s1 (2 * i + 4)))
                refine bodyPost_ret (read_results (e := 0) HZ7 _ rfl rfl) rfl ?_
                have hg := gset7 y w.heap.size (.slice dd dn dc) (.slice fa i fk) (.int .i64 (sm (nr s1 (2 * i)))) (.int .u64 (nr s1 (2 * i + 1))) (.int .u64 (nr s1 (2 * i + 2))) (.int .u64 (nr s1 (2 * i + 3))) (.int .u64 (nr s1 (2 * i + 4)))
                have hfl : ((fX zs i).map smF).length = i := by rw [List.length_map, fX_len]
                have hrq := HRQ.out
                have hres := HRS.out ⟨d0.map sm, (fX zs i).map smF, sm (nr s1 (2 * i)), nr s1 (2 * i + 1), nr s1 (2 * i + 2), nr s1 (2 * i + 3), nr s1 (2 * i + 4)⟩ _ dd dc fa fk HRED.out (by
                  show Zs _ dd (d0.map sm).length dc (d0.map sm)
                  rw [HDN.out]
                  exact HSY.out.gb hg (fun a ha e => by
                    have h1 : a.block = w.heap.size := Option.some.inj e
                    have := HZB.out a ha
                    omega)) (by
                  show Fs _ fa ((fX zs i).map smF).length fk ((fX zs i).map smF)
                  rw [hfl]
                  exact (ownF_fsN (ownF_grown HOY.out hg (fun k hk => by have : w.heap.size = k := Option.some.inj hk; omega)) (HFW.out i) hfl).2) (HBY.out.grown hg HBY.out.size (fun k hk => by have : w.heap.size = k := Option.some.inj hk; omega))
                simp only at hres
                rw [HDN.out, hfl] at hres
                exact hres
            · have hq0 : (0 : Int) < (ln : Int) := by omega
              have HN := hide (HRN.out (by rw [HRF.out, HOK.out, show decide (ln = 0) = false from decide_eq_false hln]; rfl))
              clear HRF HOK HSM HRN HRS CM HOW HZS HZB HFX HFW HNR hln
              go_wp2
              have HZ7 := eset7 (HZF.out) (.slice none 0 0) (.slice none 0 0) (.int .i64 0) (.int .u64 0) (.int .u64 0) (.int .u64 0) (.int .u64 0)
              refine bodyPost_ret (read_results (e := 3) HZ7 _ rfl rfl) rfl ?_
              exact HN.out _ ((HBF.out).grown (gset7 _ w.heap.size _ _ _ _ _ _ _) (HBF.out).size (fun k hk => by have : w.heap.size = k := Option.some.inj hk; omega))
    · have hcg : (40 : Int) < (c : Int) := by omega
      have HN := hide (HRN.out (by rw [HRF.out, HOK.out, show decide ((c : Int) ≤ 40) = false from decide_eq_false hc40]; rfl))
      have HZ3 := hide ST3.out.z
      have HB3' := hide ST3.out.bel
      have z0 : w3.cell? ⟨w.heap.size, 0, none⟩ = some (.slice none 0 0) := (HZ3.out).cell rfl
      have y0 : w3.frozen? ⟨w.heap.size, 0, none⟩ = false := (HZ3.out).free 0
      have z1 : w3.cell? ⟨w.heap.size, 1, none⟩ = some (.slice none 0 0) := (HZ3.out).cell rfl
      have y1 : w3.frozen? ⟨w.heap.size, 1, none⟩ = false := (HZ3.out).free 1
      have z2 : w3.cell? ⟨w.heap.size, 2, none⟩ = some (.int .i64 0) := (HZ3.out).cell rfl
      have y2 : w3.frozen? ⟨w.heap.size, 2, none⟩ = false := (HZ3.out).free 2
      have z3 : w3.cell? ⟨w.heap.size, 3, none⟩ = some (.int .u64 0) := (HZ3.out).cell rfl
      have y3 : w3.frozen? ⟨w.heap.size, 3, none⟩ = false := (HZ3.out).free 3
      have z4 : w3.cell? ⟨w.heap.size, 4, none⟩ = some (.int .u64 0) := (HZ3.out).cell rfl
      have y4 : w3.frozen? ⟨w.heap.size, 4, none⟩ = false := (HZ3.out).free 4
      have z5 : w3.cell? ⟨w.heap.size, 5, none⟩ = some (.int .u64 0) := (HZ3.out).cell rfl
      have y5 : w3.frozen? ⟨w.heap.size, 5, none⟩ = false := (HZ3.out).free 5
      have z6 : w3.cell? ⟨w.heap.size, 6, none⟩ = some (.int .u64 0) := (HZ3.out).cell rfl
      have y6 : w3.frozen? ⟨w.heap.size, 6, none⟩ = false := (HZ3.out).free 6
      clear HRF HOK HSM HRN HRS ST3 hc40
      go_wp2
      have HZ7 := eset7 (HZ3.out) (.slice none 0 0) (.slice none 0 0) (.int .i64 0) (.int .u64 0) (.int .u64 0) (.int .u64 0) (.int .u64 0)
      refine bodyPost_ret (read_results (e := 3) HZ7 _ rfl rfl) rfl ?_
      exact HN.out _ ((HB3'.out).grown (gset7 _ w.heap.size _ _ _ _ _ _ _) (HB3'.out).size (fun k hk => by have : w.heap.size = k := Option.some.inj hk; omega))
  · have HN := hide (HRN.out (by rw [HRF.out, HOK.out, show decide (er = 0) = false from decide_eq_false her]; rfl))
    have q : (er != 0) = true := by simpa using her
    have z0 : w1.cell? ⟨w.heap.size, 0, none⟩ = some (.slice none 0 0) := HZ1.out.cell rfl
    have y0 := HZ1.out.free 0
    have z1 : w1.cell? ⟨w.heap.size, 1, none⟩ = some (.slice none 0 0) := HZ1.out.cell rfl
    have y1 := HZ1.out.free 1
    have z2 : w1.cell? ⟨w.heap.size, 2, none⟩ = some (.int .i64 0) := HZ1.out.cell rfl
    have y2 := HZ1.out.free 2
    have z3 : w1.cell? ⟨w.heap.size, 3, none⟩ = some (.int .u64 0) := HZ1.out.cell rfl
    have y3 := HZ1.out.free 3
    have z4 : w1.cell? ⟨w.heap.size, 4, none⟩ = some (.int .u64 0) := HZ1.out.cell rfl
    have y4 := HZ1.out.free 4
    have z5 : w1.cell? ⟨w.heap.size, 5, none⟩ = some (.int .u64 0) := HZ1.out.cell rfl
    have y5 := HZ1.out.free 5
    have z6 : w1.cell? ⟨w.heap.size, 6, none⟩ = some (.int .u64 0) := HZ1.out.cell rfl
    have y6 := HZ1.out.free 6
    clear HRF HOK HUP HUN HSM HS0 HRN her
    have HRN := HN
    go_wp2
    have HZ7 := eset7 (HZ1.out) (.slice none 0 0) (.slice none 0 0) (.int .i64 0) (.int .u64 0) (.int .u64 0) (.int .u64 0) (.int .u64 0)
    refine bodyPost_ret (read_results (e := 3) HZ7 _ rfl rfl) rfl ?_
    exact HRN.out _ ((HB1.out).grown (gset7 _ w.heap.size _ _ _ _ _ _ _) (HB1.out).size (fun k hk => by have : w.heap.size = k := Option.some.inj hk; omega))
end

end Go.Proofs.Ytgopcaemgcnapaa.Clep

/- A text turned into bytes: a row that may be written. Conditions: at most 2^63 bytes. -/
namespace Go.Proofs.Ytgopcaemgcnapaa.Clep
open Go.RowKit
set_option linter.unusedVariables false
set_option maxRecDepth 10000

/-- A row of bytes in block g, with room up to cap, that may be written. -/
structure Rm (w : World) (g cap : Nat) (zs : List Int) : Prop where
  le : zs.length ≤ cap
  max : cap ≤ maxLen
  range : ∀ z ∈ zs, 0 ≤ z ∧ z < 256
  cell : ∀ i, i < zs.length → w.cell? ⟨g, i, none⟩ = some (.int .u8 (zs.getD i 0))
  some : ∀ i, i < cap → (w.cell? ⟨g, i, none⟩).isSome = true
  free : ∀ i, i < cap → w.frozen? ⟨g, i, none⟩ = false
theorem rm_str (w : World) (zs : List Int) (hz : ∀ z ∈ zs, 0 ≤ z ∧ z < 256) (hl : zs.length ≤ maxLen) : ∃ cap w', (convert 9 35 (.string (strOfNums zs))).run Try.prog w = .ok (.slice (some ⟨w.heap.size, 0, none⟩) zs.length cap) w' ∧
    zs.length ≤ cap ∧ Hid (Below w.heap.size w w') ∧ Hid (Rm w' w.heap.size cap zs) := by
  have hs := str_size zs
  have hrun := Go.Lib.run_convert_string_bytes (P := Try.prog) w 9 35 5 (strOfNums zs) Try.underlying9 Try.underlying35 Try.underlying5
  rw [hs] at hrun
  have hge := grownCap_ge w zs.length 0 5
  have hcs : (Go.Lib.bytesCells w 5 (strOfNums zs)).size = grownCap w zs.length 0 5 := by
    have h1 : (strOfNums zs).data.size = zs.length := hs
    simp only [Go.Lib.bytesCells, Array.size_append, Array.size_map, Array.size_replicate, h1, hs]
    omega
  refine ⟨_, _, hrun, hge, hide ?_, hide ⟨hge, grownCap_le_maxLen _ _ _ _ hl, hz, fun i hi => ?_, fun i hi => ?_, fun i hi => ?_⟩⟩
  · exact ⟨rfl, rfl, rfl, by rw [Go.Lib.bytesWorld_size]; omega, fun k hk => Go.Lib.bytesWorld_at_old w _ _ k hk⟩
  · rw [Go.Lib.bytesWorld_cell w _ _ i (by rw [hs]; exact hi)]
    have hr := hz (zs[i]) (List.getElem_mem hi)
    simp [strOfNums, List.getD, List.getElem?_eq_getElem hi]
    omega
  · simp only [World.cell?, Go.Lib.bytesWorld_at_new]
    rw [Array.getElem?_eq_getElem (by rw [hcs]; exact hi)]
    rfl
  · simp only [World.frozen?, Go.Lib.bytesWorld_at_new]
    simp [hcs]
    omega
theorem xor_range (a b : Int) : 0 ≤ bits BinOp.xor IntKind.u8 a b ∧ bits BinOp.xor IntKind.u8 a b < 256 := by
  have e : bits .xor .u8 a b = IntKind.u8.wrap ((BitVec.ofInt 8 a ^^^ BitVec.ofInt 8 b).toNat : Int) := rfl
  rw [e]
  simp [IntKind.wrap, IntKind.bits, IntKind.signed]
  omega
theorem Rm.set {w : World} {g cap : Nat} {zs : List Int} (h : Rm w g cap zs) (p : Nat) (hp : p < zs.length) (v : Int) (hv : 0 ≤ v ∧ v < 256) : Rm (w.setCell ⟨g, p, none⟩ (.int .u8 v)) g cap (zs.set p v) := by
  refine ⟨by rw [List.length_set]; exact h.le, h.max, fun z hz => ?_, fun i hi => ?_, fun i hi => ?_, fun i hi => ?_⟩
  · rcases List.mem_or_eq_of_mem_set hz with q | rfl
    · exact h.range z q
    · exact hv
  · rw [List.length_set] at hi
    by_cases e : i = p
    · subst e
      rw [World.cell?_setCell_same w ⟨g, i, none⟩ _ (h.cell i hi)]
      simp [List.getD, hi]
    · rw [World.cell?_setCell_other w ⟨g, p, none⟩ ⟨g, i, none⟩ _ (by intro q; injection q with q1 q2; omega), h.cell i hi]
      simp [List.getD, Ne.symm e]
  · by_cases e : i = p
    · subst e
      rw [World.cell?_setCell_same w ⟨g, i, none⟩ _ (h.cell i hp)]; rfl
    · rw [World.cell?_setCell_other w ⟨g, p, none⟩ ⟨g, i, none⟩ _ (by intro q; injection q with q1 q2; omega)]
      exact h.some i hi
  · simp [h.free i hi]

end Go.Proofs.Ytgopcaemgcnapaa.Clep

/- What is put is read: the bytes of an Edit that may be are that Edit's. No conditions. -/
namespace Go.Proofs.Ytgopcaemgcnapaa.Clep
open Go.RowKit
set_option linter.unusedVariables false
set_option maxRecDepth 10000

theorem stN_flat (ns t : List Int) (h : ∀ z ∈ ns, 0 ≤ z ∧ z ≤ 18446744073709551615) : ∀ j, j ≤ ns.length → stN (ns.flatMap pu ++ t, false) j = ((ns.drop j).flatMap pu ++ t, false)
  | 0, _ => by simp [stN]
  | j + 1, hj => by
    have ih := stN_flat ns t h j (by omega)
    unfold stN
    rw [ih]
    have hjl : j < ns.length := by omega
    rw [List.drop_eq_getElem_cons hjl, List.flatMap_cons, List.append_assoc]
    have hz := h ns[j] (List.getElem_mem hjl)
    unfold rt
    simp only
    rw [tk_pu _ _ hz.1 hz.2]
    simp
theorem nr_flat (ns t : List Int) (h : ∀ z ∈ ns, 0 ≤ z ∧ z ≤ 18446744073709551615) (j : Nat) (hj : j < ns.length) : nr (ns.flatMap pu ++ t, false) j = ns[j] := by
  unfold nr
  rw [stN_flat ns t h j (by omega), List.drop_eq_getElem_cons hj, List.flatMap_cons, List.append_assoc]
  have hz := h ns[j] (List.getElem_mem hj)
  unfold rt
  simp only
  rw [tk_pu _ _ hz.1 hz.2]
  simp
def flatF (a : List Fi) : List Int := a.flatMap (fun f => [f.L, f.N])
theorem flatF_len : ∀ a : List Fi, (flatF a).length = 2 * a.length
  | [] => rfl
  | f :: r => by
    have := flatF_len r
    unfold flatF at this ⊢
    simp only [List.flatMap_cons, List.length_append, List.length_cons, List.length_nil]
    omega
theorem flatF_at : ∀ (a : List Fi) (i : Nat) (f : Fi), a[i]? = some f → (flatF a)[2 * i]? = some f.L ∧ (flatF a)[2 * i + 1]? = some f.N
  | [], i, f, h => by simp at h
  | g :: r, 0, f, h => by
    simp at h
    subst h
    exact ⟨rfl, rfl⟩
  | g :: r, i + 1, f, h => by
    simp at h
    have := flatF_at r i f h
    unfold flatF at this ⊢
    rw [List.flatMap_cons, show 2 * (i + 1) = (2 * i) + 2 from by omega]
    exact this
theorem fbs_flat : ∀ a : List Fi, fbs a = (flatF a).flatMap pu
  | [] => rfl
  | f :: r => by
    have := fbs_flat r
    unfold fbs flatF at this ⊢
    simp only [List.flatMap_cons, List.flatMap_append]
    rw [this]
    simp
theorem ebd_read {E : Ed} (hm : emay E = 0) (hu : 0 ≤ E.fl ∧ 0 ≤ E.ct ∧ 0 ≤ E.at9 ∧ 0 ≤ E.ls) : red (ebd E) = some E := by
  have hp := emay_parts hm
  have hul : ul (ebd E) 40 = (E.d, ((li E.d).length : Int), 0) := by
    unfold ebd
    exact ul_whole E.d _ (urange_of fun z hz => by have := hp.2.1 z hz; omega) (by omega) 40 (by omega)
  have hs0 : s0X (ebd E) = (pu (E.a.length : Int) ++ (fbs E.a ++ rest [E.lg, E.fl, E.ct, E.at9, E.ls] 0), false) := by
    unfold s0X
    rw [hul]
    simp only [Int.toNat_natCast]
    unfold ebd
    rw [List.drop_left]
  have hrt : rt (s0X (ebd E)) = ((E.a.length : Int), (fbs E.a ++ rest [E.lg, E.fl, E.ct, E.at9, E.ls] 0, false)) := by
    rw [hs0]
    unfold rt
    simp only
    rw [tk_pu _ _ (by omega) (by omega)]
    simp
  have hc : cX (ebd E) = (E.a.length : Int) := by unfold cX; rw [hrt]
  obtain ⟨ns, hns⟩ : ∃ ns, flatF E.a ++ [E.lg, E.fl, E.ct, E.at9, E.ls] = ns := ⟨_, rfl⟩
  have hs1 : s1X (ebd E) = (ns.flatMap pu ++ [], false) := by
    unfold s1X
    rw [hrt, ← hns, List.flatMap_append, fbs_flat, List.append_nil]
    rfl
  have hnr : ∀ z ∈ ns, 0 ≤ z ∧ z ≤ 18446744073709551615 := by
    rw [← hns]
    intro z hz
    rcases List.mem_append.1 hz with h | h
    · obtain ⟨f, hf, h⟩ := List.mem_flatMap.1 h
      have := hp.2.2.1 f hf
      simp at h
      rcases h with rfl | rfl <;> omega
    · simp at h
      omega
  have hnl : ns.length = 2 * E.a.length + 5 := by rw [← hns, List.length_append, flatF_len]; rfl
  have hn : ∀ j v, ns[j]? = some v → nr (s1X (ebd E)) j = v := fun j v hv => by
    obtain ⟨hj, rfl⟩ := List.getElem?_eq_some_iff.1 hv
    rw [hs1, nr_flat ns [] hnr j hj]
  have hst : stN (s1X (ebd E)) (2 * E.a.length + 5) = ([], false) := by
    rw [hs1, stN_flat ns [] hnr _ (by omega), List.drop_eq_nil_of_le (by omega)]
    rfl
  have hfive : ∀ j v, [E.lg, E.fl, E.ct, E.at9, E.ls][j]? = some v → ns[2 * E.a.length + j]? = some v := fun j v hv => by
    rw [← hns, List.getElem?_append_right (by rw [flatF_len]; omega), flatF_len, show 2 * E.a.length + j - 2 * E.a.length = j from by omega]
    exact hv
  have hraw : rawE (ebd E) = E := by
    have hfx : fX (ebd E) E.a.length = E.a := by
      apply List.ext_getElem?
      intro i
      by_cases hi : i < E.a.length
      · have hf : E.a[i]? = some E.a[i] := List.getElem?_eq_getElem hi
        have h2 := flatF_at E.a i _ hf
        have e1 : ns[2 * i]? = some E.a[i].L := by rw [← hns, List.getElem?_append_left (by rw [flatF_len]; omega)]; exact h2.1
        have e2 : ns[2 * i + 1]? = some E.a[i].N := by rw [← hns, List.getElem?_append_left (by rw [flatF_len]; omega)]; exact h2.2
        unfold fX
        rw [List.getElem?_map, List.getElem?_range hi, hf]
        simp only [Option.map_some]
        rw [hn _ _ e1, hn _ _ e2]
      · rw [List.getElem?_eq_none (by rw [fX_len]; omega), List.getElem?_eq_none (by omega)]
    unfold rawE
    rw [hul, hc]
    simp only [Int.toNat_natCast]
    rw [hfx, hn (2 * E.a.length) _ (hfive 0 _ rfl), hn _ _ (hfive 1 _ rfl), hn _ _ (hfive 2 _ rfl), hn _ _ (hfive 3 _ rfl), hn _ _ (hfive 4 _ rfl)]
  unfold red
  rw [hraw, (mayB_iff E).2 hm]
  have hok : okR (ebd E) = true := by
    unfold okR
    rw [hul, hc]
    simp only [Int.toNat_natCast, hst]
    simp
    omega
  rw [hok]
  rfl
theorem ebd_range {E : Ed} (hm : emay E = 0) (hu : 0 ≤ E.fl ∧ 0 ≤ E.ct ∧ 0 ≤ E.at9 ∧ 0 ≤ E.ls) : ByteL (ebd E) := by
  have hp := emay_parts hm
  unfold ebd
  refine bytel_app (li_range E.d (urange_of fun z hz => by have := hp.2.1 z hz; omega) (by omega)) (bytel_app (pu_range _ (by omega) (by omega)) (bytel_app (fbs_range E.a hp.2.2.1) ?_))
  have := rows_range [E.lg, E.fl, E.ct, E.at9, E.ls] (urange_of fun z hz => by simp at hz; omega) 5
  rw [rows_all _ 5 (by simp)] at this
  exact this
theorem fr_body (ys : List Int) (hn : ys.length ≤ 60000) : ((fr 6 ys).take (8 + ys.length)).drop 8 = ys := by
  have h1 := fr_ln 6 ys [] hn
  have h2 := fr_bo 6 ys [] hn
  rw [List.append_nil] at h1 h2
  have := bo_cut (fr 6 ys) 0 ys.length (by rw [List.drop_zero, h1]; simp)
  rw [List.drop_zero, h2] at this
  simpa using this

end Go.Proofs.Ytgopcaemgcnapaa.Clep

/- What edit.Put does when called (a walk over the translated program): for any Edit. -/
namespace Go.Proofs.Ytgopcaemgcnapaa.Clep
open Go.RowKit
set_option linter.unusedVariables false
set_option maxRecDepth 10000

/-- What Put returns. -/
def PutR (E : Ed) (zs : List Int) (w : World) (e : Ending) (w' : World) : Prop := (if emay E = 0 then ∃ v, e = .returned (.tuple #[v, .int .i64 0]) ∧ Own w' w.heap.size v (zs ++ fr 6 (ebd E)) else e = .returned (.tuple #[.slice none 0 0, .int .i64 1])) ∧ Below w.heap.size w w'
set_option maxHeartbeats 1000000 in
theorem eput_any (a0 : Option Addr) (n0 c0 : Nat) (zs : List Int) (da : Option Addr) (dn dc : Nat) (aa : Option Addr) (an ac : Nat) (E : Ed) (w : World) (h0 : Bs w a0 n0 c0 zs) (hn0 : n0 ≤ 1000000) (hd : Zs w da dn dc E.d) (ha : Fs w aa an ac E.a) (hdn : dn ≤ 9223372036854775807) (han : an ≤ 9223372036854775807) (hu : 0 ≤ E.fl ∧ 0 ≤ E.ct ∧ 0 ≤ E.at9 ∧ 0 ≤ E.ls) :
    Calls Try.prog 10 #[.slice a0 n0 c0, edV da dn dc aa an ac E] w (PutR E zs w) := by
  have HRB := hide (show ∀ W, ¬ emay E = 0 → Below w.heap.size w W → PutR E zs w (.returned (.tuple #[.slice none 0 0, .int .i64 1])) W from fun W h1 h2 => ⟨by rw [if_neg h1], h2⟩)
  have HRG := hide (show ∀ W v, emay E = 0 → Own W w.heap.size v (zs ++ fr 6 (ebd E)) → Below w.heap.size w W → PutR E zs w (.returned (.tuple #[v, .int .i64 0])) W from fun W v h1 h2 h3 => ⟨by rw [if_pos h1]; exact ⟨v, rfl, h2⟩, h3⟩)
  generalize PutR E zs w = RR at *
  have CM := hide (fun W (hW : Below w.heap.size w W) => maybe_any da dn dc aa an ac E W (hd.below hW (Nat.le_refl _)) (ha.below hW (Nat.le_refl _)) hdn han)
  have CB := hide (fun W (hW : Below w.heap.size w W) (hm : emay E = 0) => bodyof_any da dn dc aa an ac E W (hd.below hW (Nat.le_refl _)) (ha.below hW (Nat.le_refl _)) hm hu)
  have HB := hide (fun W (hW : Below w.heap.size w W) => h0.below hW (Nat.le_refl _))
  have HM := hide (mayB_iff E)
  have HL := hide (fun hm : emay E = 0 => ebd_len hm)
  have HBR := hide (fun hm : emay E = 0 => ebd_range hm hu)
  generalize mayB E = M at *
  generalize emay E = m at *
  generalize ebd E = Y at *
  obtain ⟨d, a, lg, fl, ct, at9, ls⟩ := E
  unfold edV
  unfold edV at CM CB
  simp only at CM CB ⊢
  clear hd ha hu h0
  have A0 := (Below.refl w.heap.size w).alloc (Nat.le_refl _) (Obj.cells #[.slice da dn dc, .slice aa an ac, .int .i64 lg, .int .u64 fl, .int .u64 ct, .int .u64 at9, .int .u64 ls] 31)
  have HB0 := hide A0
  have HK := hide (ek_new w #[.slice da dn dc, .slice aa an ac, .int .i64 lg, .int .u64 fl, .int .u64 ct, .int .u64 at9, .int .u64 ls] 31)
  clear A0
  go_enter Try.func10, Try.ntmps10
  go_wp2_with fail
  refine (CM.out _ HB0.out).mono ?_
  rintro e w1 ⟨rfl, hb1⟩
  have HB1 := hide (HB0.out.trans (hb1.mono HB0.out.size))
  have hk := HK.out.below hb1 HK.out.lt
  clear CM hb1 HB0 HK
  cases M with
  | false =>
    have hm : ¬ m = 0 := fun e => by have := HM.out.2 e; cases this
    have HE := hide hm
    clear hk hm CB HM HL HBR
    go_wp2
    exact HRB.out _ HE.out HB1.out
  | true =>
    have hm : m = 0 := HM.out.1 rfl
    have HE := hide hm
    have k0 : w1.cell? ⟨w.heap.size, 0, none⟩ = some (.slice da dn dc) := hk.cell rfl
    have k1 : w1.cell? ⟨w.heap.size, 1, none⟩ = some (.slice aa an ac) := hk.cell rfl
    have k2 : w1.cell? ⟨w.heap.size, 2, none⟩ = some (.int .i64 lg) := hk.cell rfl
    have k3 : w1.cell? ⟨w.heap.size, 3, none⟩ = some (.int .u64 fl) := hk.cell rfl
    have k4 : w1.cell? ⟨w.heap.size, 4, none⟩ = some (.int .u64 ct) := hk.cell rfl
    have k5 : w1.cell? ⟨w.heap.size, 5, none⟩ = some (.int .u64 at9) := hk.cell rfl
    have k6 : w1.cell? ⟨w.heap.size, 6, none⟩ = some (.int .u64 ls) := hk.cell rfl
    have CB1 := hide (CB.out w1 HB1.out hm)
    have hYl := HL.out hm
    have HYR := hide (HBR.out hm)
    clear hk hm CB HM HL HBR
    go_wp2_with fail
    refine CB1.out.mono ?_
    rintro e w2 ⟨v2, rfl, ho2, hb2⟩
    obtain ⟨a2, c2, rfl, _, hbs2, _⟩ := own_bs ho2 (range_of HYR.out)
    obtain ⟨n2, hn2⟩ : ∃ n, Y.length = n := ⟨_, rfl⟩
    rw [hn2] at hbs2 hYl ⊢
    have HB2 := hide (HB1.out.trans (hb2.mono HB1.out.size))
    have CF := hide (fput_any a0 a2 n0 c0 n2 c2 zs Y 6 w2 (by omega) (by omega) (by omega) (by omega) (HB.out w2 HB2.out) hbs2)
    clear CB1 ho2 hb2 hbs2 hn2 k0 k1 k2 k3 k4 k5 k6
    go_wp2_with fail
    refine CF.out.mono ?_
    rintro e w3 ⟨v3, rfl, ho3, hb3⟩
    have HB3 := hide (HB2.out.trans (hb3.mono HB2.out.size))
    have HO3 := hide (own_base9 ho3 HB2.out.size)
    clear CF ho3 hb3
    go_wp2
    exact HRG.out _ v3 HE.out HO3.out HB3.out

end Go.Proofs.Ytgopcaemgcnapaa.Clep

/- The statement EditPuts, walked: for any bytes and any Edit. No conditions. -/
namespace Go.Proofs.Ytgopcaemgcnapaa.Clep
open Go.RowKit
set_option linter.unusedVariables false
set_option maxRecDepth 10000

theorem rm_bs {w : World} {g cap : Nat} {zs : List Int} (h : Rm w g cap zs) : Bs w (some ⟨g, 0, none⟩) zs.length cap zs := ⟨rfl, ⟨h.le, fun e => by cases e⟩, range_of h.range, fun _ => ⟨g, 0, rfl, fun i hi => by rw [Nat.zero_add]; exact h.cell i hi⟩⟩
theorem emay_or (E : Ed) : emay E = 0 ∨ emay E = 1 := by unfold emay; split <;> simp

section
attribute [local go_sem ↓] cut_lh
set_option maxHeartbeats 4000000 in
theorem puts_walk (a0 : Option Addr) (n0 c0 : Nat) (zs : List Int) (y : Er) (w : World) (h0 : Bs w a0 n0 c0 zs ∧ n0 ≤ 9223372036854775807) (hy : y.ok w) :
    Calls Try.prog 5 #[.slice a0 n0 c0, .agg #[.slice y.da y.dn y.dc, .slice y.aa y.an y.ac, .int .i64 y.E.lg, .int .u64 y.E.fl, .int .u64 y.E.ct, .int .u64 y.E.at9, .int .u64 y.E.ls]] w fun e w' => e = .returned (.bool true) ∧ Below w.heap.size w w' := by
  obtain ⟨da, dn, dc, aa, an, ac, E⟩ := y
  obtain ⟨⟨hd, hdn⟩, ⟨ha, han⟩, hlg, hfl, hct, hat9, hls⟩ := hy
  simp only at hd hdn ha han hlg hfl hct hat9 hls ⊢
  have hu : 0 ≤ E.fl ∧ 0 ≤ E.ct ∧ 0 ≤ E.at9 ∧ 0 ≤ E.ls := ⟨hfl.1, hct.1, hat9.1, hls.1⟩
  have hn0 := h0.2
  have l0 := h0.1.1
  have HA := hide awake_any
  have CF := hide (fun W => few_any da aa dn dc an ac E W hdn han)
  obtain ⟨of, hof⟩ : ∃ o, decide (dn ≤ 60 ∧ an ≤ 60) = o := ⟨_, rfl⟩
  rw [hof] at CF
  have HYL := hide (show of = true → dn ≤ 60 ∧ an ≤ 60 from fun e => of_decide_eq_true (hof.trans e))
  have HZ := hide (fun W (hW : Below w.heap.size w W) => hd.below hW (Nat.le_refl _))
  have HF := hide (fun W (hW : Below w.heap.size w W) => ha.below hW (Nat.le_refl _))
  have HBs := hide (fun W (hW : Below w.heap.size w W) => h0.1.below hW (Nat.le_refl _))
  have CP := hide (fun W (hW : Below w.heap.size w W) (hn : n0 ≤ 1000) => eput_any a0 n0 c0 zs da dn dc aa an ac E W (HBs.out W hW) (by omega) (HZ.out W hW) (HF.out W hW) hdn han hu)
  have CM := hide (fun W (hW : Below w.heap.size w W) => editmay_any da dn dc aa an ac E W (HZ.out W hW) (HF.out W hW) hdn han)
  have CE := hide (fun W (hW : Below w.heap.size w W) (hm : emay E = 0) => redit_any da dn dc aa an ac E W (HZ.out W hW) (HF.out W hW) hm hu)
  have CS := hide (fun W (hW : Below w.heap.size w W) da' dc' aa' ac' (h1 : Zs W da' E.d.length dc' E.d) (h2 : Fs W aa' E.a.length ac' E.a) (l1 : E.d.length ≤ 40) (l2 : E.a.length ≤ 40) => (esame_any da' aa' da aa E.d.length dc' E.a.length ac' dn dc an ac E E W h1 h2 (HZ.out W hW) (HF.out W hW) (by omega) hdn (by omega) han).mono (R' := fun e w' => e = .returned (.bool true) ∧ Below W.heap.size W w') fun e w' ⟨o, he, ho, hb⟩ => ⟨by rw [he, ho.2 rfl], hb⟩)
  have HEL := hide (fun hm : emay E = 0 => ebd_len hm)
  have HER := hide (fun hm : emay E = 0 => ebd_range hm hu)
  have HRE := hide (fun hm : emay E = 0 => ebd_read hm hu)
  have HPT := hide (fun hm : emay E = 0 => (emay_parts hm).1)
  have HOR := emay_or E
  have HZR := hide (bs_range h0.1)
  unfold edV at CF CP CM CE CS
  clear hd ha hlg hfl hct hat9 hls hu hof h0
  have EC : True := trivial
  have A0 := (Below.refl w.heap.size w).alloc (Nat.le_refl _) (Obj.cells #[.slice da dn dc, .slice aa an ac, .int .i64 E.lg, .int .u64 E.fl, .int .u64 E.ct, .int .u64 E.at9, .int .u64 E.ls] 31)
  have HB0 := hide A0
  have HK := hide (show ∀ W, Below (w.heap.size + 1) (w.alloc (Obj.cells #[.slice da dn dc, .slice aa an ac, .int .i64 E.lg, .int .u64 E.fl, .int .u64 E.ct, .int .u64 E.at9, .int .u64 E.ls] 31)) W → Ek W w.heap.size #[.slice da dn dc, .slice aa an ac, .int .i64 E.lg, .int .u64 E.fl, .int .u64 E.ct, .int .u64 E.at9, .int .u64 E.ls] 31 from fun W hW => (ek_new w _ _).below hW (by omega))
  have HSA := hide (show (w.alloc (Obj.cells #[.slice da dn dc, .slice aa an ac, .int .i64 E.lg, .int .u64 E.fl, .int .u64 E.ct, .int .u64 E.at9, .int .u64 E.ls] 31)).heap.size = w.heap.size + 1 by simp)
  clear A0 EC
  by_cases hb : 1000 < n0
  · have q1 : (1000 : Int) < (n0 : Int) := by omega
    go_enter Try.func5, Try.ntmps5
    go_wp2_with (go_at_call 13; refine (HA.out _).mono ?_; rintro e w6 ⟨rfl, hb6⟩)
    go_ret
    exact ⟨rfl, HB0.out.trans (hb6.mono HB0.out.size)⟩
  · have q1 : ¬ ((1000 : Int) < (n0 : Int)) := by omega
    go_enter Try.func5, Try.ntmps5
    go_wp2_with fail
    generalize hwa : w.alloc (Obj.cells #[.slice da dn dc, .slice aa an ac, .int .i64 E.lg, .int .u64 E.fl, .int .u64 E.ct, .int .u64 E.at9, .int .u64 E.ls] 31) = wa at *
    clear hwa
    refine (CF.out _).mono ?_
    rintro e w1 ⟨rfl, hb1⟩
    have HB1 := hide (HB0.out.trans (hb1.mono HB0.out.size))
    have HC1 := hide (show Below (w.heap.size + 1) wa w1 from hb1.mono (by rw [HSA.out]; exact Nat.le_refl _))
    clear hb1 CF HB0
    cases of with
    | false =>
      go_wp2_with (go_at_call 13; refine (HA.out _).mono ?_; rintro e w6 ⟨rfl, hb6⟩)
      go_ret
      exact ⟨rfl, HB1.out.trans (hb6.mono HB1.out.size)⟩
    | true =>
      have hyl := HYL.out (by first | rfl | trivial)
      have k := HK.out w1 HC1.out
      have e0 : w1.cell? ⟨w.heap.size, 0, none⟩ = some (.slice da dn dc) := k.cell rfl
      have e1 : w1.cell? ⟨w.heap.size, 1, none⟩ = some (.slice aa an ac) := k.cell rfl
      have e2 : w1.cell? ⟨w.heap.size, 2, none⟩ = some (.int .i64 E.lg) := k.cell rfl
      have e3 : w1.cell? ⟨w.heap.size, 3, none⟩ = some (.int .u64 E.fl) := k.cell rfl
      have e4 : w1.cell? ⟨w.heap.size, 4, none⟩ = some (.int .u64 E.ct) := k.cell rfl
      have e5 : w1.cell? ⟨w.heap.size, 5, none⟩ = some (.int .u64 E.at9) := k.cell rfl
      have e6 : w1.cell? ⟨w.heap.size, 6, none⟩ = some (.int .u64 E.ls) := k.cell rfl
      have CP1 := hide (CP.out w1 HB1.out (by omega))
      clear k CP HYL
      go_wp2_with fail
      refine CP1.out.mono ?_
      rintro e w2 ⟨hr2, hb2⟩
      have HB2 := hide (HB1.out.trans (hb2.mono HB1.out.size))
      have hs1 : w.heap.size + 1 ≤ w1.heap.size := by rw [← HSA.out]; exact HC1.out.size
      have HC2 := hide (HC1.out.trans (hb2.mono hs1))
      have CM2 := hide (CM.out w2 HB2.out)
      clear CM CP1 e0 e1 e2 e3 e4 e5 e6 hb2
      have k := HK.out w2 HC2.out
      have e0 : w2.cell? ⟨w.heap.size, 0, none⟩ = some (.slice da dn dc) := k.cell rfl
      have e1 : w2.cell? ⟨w.heap.size, 1, none⟩ = some (.slice aa an ac) := k.cell rfl
      have e2 : w2.cell? ⟨w.heap.size, 2, none⟩ = some (.int .i64 E.lg) := k.cell rfl
      have e3 : w2.cell? ⟨w.heap.size, 3, none⟩ = some (.int .u64 E.fl) := k.cell rfl
      have e4 : w2.cell? ⟨w.heap.size, 4, none⟩ = some (.int .u64 E.ct) := k.cell rfl
      have e5 : w2.cell? ⟨w.heap.size, 5, none⟩ = some (.int .u64 E.at9) := k.cell rfl
      have e6 : w2.cell? ⟨w.heap.size, 6, none⟩ = some (.int .u64 E.ls) := k.cell rfl
      clear k
      rcases HOR with hm | hm
      · rw [if_pos hm] at hr2
        obtain ⟨v2, rfl, ho2⟩ := hr2
        rw [hm] at CM2
        have HM := hide hm
        have hEl := HEL.out hm
        have HERm := hide (HER.out hm)
        have hpt := HPT.out hm
        have HREm := hide (HRE.out hm)
        have HCEm := hide (fun W hW => CE.out W hW hm)
        have hFR : ByteL (fr 6 (ebd E)) := fr_range 6 (ebd E) (by omega) (by omega) (by omega) HERm.out
        obtain ⟨L, hL⟩ : ∃ L, (zs ++ fr 6 (ebd E)).length = L := ⟨_, rfl⟩
        obtain ⟨ax, cx, hvx, hcx⟩ := own_conv ho2 (cat_range HZR.out hFR) L hL
        subst hvx
        have HCX := hide hcx.out
        have hadd : ∀ W, (Op.stringOp .add (strOfNums zs) (strOfNums (fr 6 (ebd E)))).run Try.prog W = .ok (.string (strOfNums (zs ++ fr 6 (ebd E)))) W := fun W => by
          rw [← str_app]
          exact run_string_add_sum W _ _ (by rw [str_size, str_size, fr_len]; omega)
        have HADD := hide hadd
        have HFL := hide (fr_len 6 (ebd E))
        have HFB := hide (fr_body (ebd E) (by omega))
        have HFR := hide hFR
        clear hm ho2 hcx HEL HER HRE HPT CE hFR hL hadd
        go_wp2_with fail
        refine CM2.out.mono ?_
        rintro e w3 ⟨rfl, hb3⟩
        have HB3 := hide (HB2.out.trans (hb3.mono HB2.out.size))
        have hs2 : w.heap.size + 1 ≤ w2.heap.size := by rw [← HSA.out]; exact HC2.out.size
        have HC3 := hide (HC2.out.trans (hb3.mono hs2))
        have HB23 := hide hb3
        clear CM2 hb3 e0 e1 e2 e3 e4 e5 e6
        have k := HK.out w3 HC3.out
        have e0 : w3.cell? ⟨w.heap.size, 0, none⟩ = some (.slice da dn dc) := k.cell rfl
        have e1 : w3.cell? ⟨w.heap.size, 1, none⟩ = some (.slice aa an ac) := k.cell rfl
        have e2 : w3.cell? ⟨w.heap.size, 2, none⟩ = some (.int .i64 E.lg) := k.cell rfl
        have e3 : w3.cell? ⟨w.heap.size, 3, none⟩ = some (.int .u64 E.fl) := k.cell rfl
        have e4 : w3.cell? ⟨w.heap.size, 4, none⟩ = some (.int .u64 E.ct) := k.cell rfl
        have e5 : w3.cell? ⟨w.heap.size, 5, none⟩ = some (.int .u64 E.at9) := k.cell rfl
        have e6 : w3.cell? ⟨w.heap.size, 6, none⟩ = some (.int .u64 E.ls) := k.cell rfl
        clear k
        have CE3 := hide (HCEm.out w3 HB3.out)
        go_wp2_with fail
        refine CE3.out.mono ?_
        rintro e w4 ⟨rfl, hb4⟩
        have HB4 := hide (HB3.out.trans (hb4.mono HB3.out.size))
        have hs3 : w.heap.size + 1 ≤ w3.heap.size := Nat.le_trans hs2 HB23.out.size
        have HC4 := hide (HC3.out.trans (hb4.mono hs3))
        have HB24 := hide (HB23.out.trans (hb4.mono HB23.out.size))
        obtain ⟨cp, w5, hcv, hcpl, hb5, hrm⟩ := rm_str w4 (fr 6 (ebd E)) HFR.out (by rw [HFL.out]; unfold maxLen; omega)
        have HBS5 := hide (rm_bs hrm.out)
        have hcpm := hrm.out.max
        obtain ⟨F, hF⟩ : ∃ F, (fr 6 (ebd E)).length = F := ⟨_, rfl⟩
        have hF2 : F = (ebd E).length + 12 := by rw [← hF, HFL.out]
        rw [hF] at hcv hcpl HBS5
        have zsz : (strOfNums (fr 6 (ebd E))).size = F := by rw [str_size, hF]
        have hsub : IntKind.i64.wrap ((F : Int) - 4) = ((F - 4 : Nat) : Int) := by
          simp [IntKind.wrap, IntKind.bits, IntKind.signed]
          omega
        have hc8 : (8 : Int) ≤ ((F - 4 : Nat) : Int) := by omega
        have hc9 : ((F - 4 : Nat) : Int) ≤ (cp : Int) := by omega
        have hcut := HBS5.out.cut 8 (F - 4) (by omega) (by omega)
        rw [show F - 4 = 8 + (ebd E).length from by omega, HFB.out] at hcut
        obtain ⟨M, hM⟩ : ∃ M, (ebd E).length = M := ⟨_, rfl⟩
        rw [hM] at hcut hF2
        have hFM : F - 4 - 8 = M := by omega
        have hFM2 : 8 + M - 8 = M := by omega
        rw [hFM2] at hcut
        have CR := hide (read_any (cut (some ⟨w4.heap.size, 0, none⟩) cp 8) M (cp - 8) (ebd E) w5 (by omega) (by unfold maxLen at hcpm; omega) hcut)
        rw [HREm.out] at CR
        have HB5 := hide (HB4.out.trans (hb5.out.mono HB4.out.size))
        have hs4 : w.heap.size + 1 ≤ w4.heap.size := Nat.le_trans hs3 hb4.size
        have HC5 := hide (HC4.out.trans (hb5.out.mono hs4))
        have HB25 := hide (HB24.out.trans (hb5.out.mono HB24.out.size))
        have HMS := hide hM
        clear CE3 hb4 e0 e1 e2 e3 e4 e5 e6 hcut hF hM hF2 hb5 hrm HBS5
        go_wp2_with fail
        refine CR.out.mono ?_
        rintro e w6 ⟨hr6, hb6⟩
        obtain ⟨da', dc', aa', ac', rfl, hz6, hf6⟩ := hr6
        have hs5 : w.heap.size + 1 ≤ w5.heap.size := by rw [← HSA.out]; exact HC5.out.size
        have HB6 := hide (HB5.out.trans (hb6.mono HB5.out.size))
        have HC6 := hide (HC5.out.trans (hb6.mono hs5))
        have HB26 := hide (HB25.out.trans (hb6.mono HB25.out.size))
        have A7 := (Below.refl _ w6).alloc (Nat.le_refl _) (Obj.cells #[.slice da' E.d.length dc', .slice aa' E.a.length ac', .int .i64 E.lg, .int .u64 E.fl, .int .u64 E.ct, .int .u64 E.at9, .int .u64 E.ls] 31)
        have HB7 := hide (HB6.out.trans (A7.mono HB6.out.size))
        have HB27 := hide (HB26.out.trans (A7.mono HB26.out.size))
        have CS7 := hide (CS.out _ HB7.out da' dc' aa' ac' (hz6.below A7 (Nat.le_refl _)) (hf6.below A7 (Nat.le_refl _)) (by omega) (by omega))
        have p0 := HCX.out _ HB27.out
        have p1 := conv_bs (HBs.out _ HB7.out)
        have hadd := HADD.out
        have hl6 : w.heap.size < w6.heap.size := (HK.out w6 HC6.out).lt
        have k := HK.out w6 HC6.out
        have e0 : w6.cell? ⟨w.heap.size, 0, none⟩ = some (.slice da dn dc) := k.cell rfl
        have e1 : w6.cell? ⟨w.heap.size, 1, none⟩ = some (.slice aa an ac) := k.cell rfl
        have e2 : w6.cell? ⟨w.heap.size, 2, none⟩ = some (.int .i64 E.lg) := k.cell rfl
        have e3 : w6.cell? ⟨w.heap.size, 3, none⟩ = some (.int .u64 E.fl) := k.cell rfl
        have e4 : w6.cell? ⟨w.heap.size, 4, none⟩ = some (.int .u64 E.ct) := k.cell rfl
        have e5 : w6.cell? ⟨w.heap.size, 5, none⟩ = some (.int .u64 E.at9) := k.cell rfl
        have e6 : w6.cell? ⟨w.heap.size, 6, none⟩ = some (.int .u64 E.ls) := k.cell rfl
        generalize strOfNums (zs ++ fr 6 (ebd E)) = SX at *
        generalize strOfNums (fr 6 (ebd E)) = SF at *
        generalize strOfNums zs = SB at *
        unfold edV
        clear CR hb6 hz6 hf6 A7 k CS HK HCX HADD HBs hcv zsz
        go_wp2_with fail
        refine CS7.out.mono ?_
        rintro e w8 ⟨rfl, hb8⟩
        have HB8 := hide (HB7.out.trans (hb8.mono HB7.out.size))
        clear CS7 hb8 e0 e1 e2 e3 e4 e5 e6 p0 p1 hadd
        go_wp2_with (go_at_call 13; refine (HA.out _).mono ?_; rintro e w9 ⟨rfl, hb9⟩)
        go_ret
        exact ⟨rfl, HB8.out.trans (hb9.mono HB8.out.size)⟩
      · rw [if_neg (by omega)] at hr2
        subst hr2
        rw [hm] at CM2
        clear hm HEL HER HRE HPT CE CS
        go_wp2_with fail
        refine CM2.out.mono ?_
        rintro e w3 ⟨rfl, hb3⟩
        have HB3 := hide (HB2.out.trans (hb3.mono HB2.out.size))
        clear CM2 hb3 e0 e1 e2 e3 e4 e5 e6
        go_wp2_with (go_at_call 13; refine (HA.out _).mono ?_; rintro e w6 ⟨rfl, hb6⟩)
        go_ret
        exact ⟨rfl, HB3.out.trans (hb6.mono HB3.out.size)⟩
end

end Go.Proofs.Ytgopcaemgcnapaa.Clep
