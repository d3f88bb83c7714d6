/- The statements' own test of the Disk says true: the walk over the translated program. No conditions. -/
import Derived.Test.YtdldpdllhnpdaaaGreatYf
namespace Go.Proofs.YtdldpdllhnpdaaaGreat.Clep
open Go.RowKit Go.Maps
set_option linter.unusedVariables false
set_option maxRecDepth 10000

def nmA : ByteArray := ⟨#[97]⟩
def aw1 : St := ⟨1000, 1, 0, 0, false, 1, [⟨1, [], 0⟩], .map [(.string [97], i64L 1)], .map [], [⟨0, ⟨#[97]⟩, ⟨#[]⟩, 1⟩]⟩
def aw2 : St := ⟨1000, 2, 0, 0, false, 1, [⟨1, [120, 121, 122], 0⟩], .map [(.string [97], i64L 1)], .map [], [⟨0, ⟨#[97]⟩, ⟨#[]⟩, 1⟩]⟩
def aw3 : St := ⟨1000, 3, 0, 0, false, 1, [⟨1, [120, 121, 122], 0⟩], .map [(.string [97], i64L 1)], .map [(.string [97], i64L 1)], []⟩
def aw4 : St := ⟨1000, 3, 0, 0, false, 1, [⟨1, [120, 121], 2⟩], .map [(.string [97], i64L 1)], .map [(.string [97], i64L 1)], []⟩
theorem awake1 : createS (newS 1000) ⟨#[97]⟩ = (0, aw1) := by kernel_rfl
theorem awake2 : appendS aw1 ⟨#[97]⟩ [120, 121, 122] = (0, aw2) := by kernel_rfl
theorem awake3 : syncDirS aw2 = (0, aw3) := by kernel_rfl
theorem awake4 : crashS aw3 [2] = aw4 := by kernel_rfl
theorem awake5 : readS aw4 ⟨#[97]⟩ = (0, [120, 121]) := by kernel_rfl

end Go.Proofs.YtdldpdllhnpdaaaGreat.Clep

/- What Bytes of the statements, and Rename of a Disk, do when called (walks over the translated program): for lengths of at most 2^40, numbers of at most 2^60, any Disk of fewer than 2^40 calls, names of at most 2^46 bytes. -/
namespace Go.Proofs.YtdldpdllhnpdaaaGreat.Clep
open Go.RowKit Go.Maps
set_option linter.unusedVariables false
set_option maxRecDepth 10000

def byt (n : Int) (L : Nat) : List Int := (List.range L).map fun i : Nat => (n + 3 * (i : Int)) % 256
theorem byt_len (n : Int) (L : Nat) : (byt n L).length = L := by simp [byt]
theorem byt_range (n : Int) (L : Nat) : ∀ z ∈ byt n L, 0 ≤ z ∧ z < 256 := by
  intro z hz
  obtain ⟨i, _, rfl⟩ := List.mem_map.1 hz
  omega
theorem byt_succ (n : Int) (k : Nat) : byt n (k + 1) = byt n k ++ [(n + 3 * (k : Int)) % 256] := by
  unfold byt
  rw [List.range_succ, List.map_append]
  rfl
theorem zerosN (L : Nat) : (madeCells #[Value.int IntKind.u8 0] L).toList = bv (List.replicate L 0) := by
  unfold madeCells bv
  rw [Array.toList_map, List.map_replicate]
  refine List.ext_getElem (by simp) fun i h1 h2 => ?_
  simp
  rw [Nat.mod_one]
  rfl
theorem set_byt (n : Int) (L k : Nat) (h : k < L) : (bv (byt n k ++ List.replicate (L - k) 0)).set k (.int .u8 ((n + 3 * (k : Int)) % 256)) = bv (byt n (k + 1) ++ List.replicate (L - (k + 1)) 0) := by
  rw [byt_succ, show L - k = (L - (k + 1)) + 1 from by omega, List.replicate_succ]
  unfold bv
  rw [List.map_append, List.map_append, List.map_cons, List.map_append, List.set_append, if_neg (by simp [byt_len])]
  simp [byt_len]

def renS (S : St) (a b : ByteArray) : Nat × St :=
  if okName a = false ∨ okName b = false then (10, S)
  else if (beginS S).1 ≠ 0 then beginS S
  else if (fileAt (beginS S).2.files (lk (beginS S).2.names a)).isNone then (11, (beginS S).2)
  else if a = b then (0, (beginS S).2)
  else (0, { (beginS S).2 with names := doS (beginS S).2.names ⟨1, a, b, 0⟩, since := (beginS S).2.since ++ [⟨1, a, b, 0⟩] })

theorem txts_two (w : World) (a b : ByteArray) : Txts (w.alloc (.cells #[.string a, .string b] 9)) (some ⟨w.heap.size, 0, none⟩) [a, b] := by
  intro i hi
  have hi' : i = 0 ∨ i = 1 := by simp at hi; omega
  rcases hi' with rfl | rfl
  · exact ⟨_, _, rfl, cell_of (MapKept.heap_alloc w _).1 (by simp)⟩
  · exact ⟨_, _, rfl, cell_of (MapKept.heap_alloc w _).1 (by simp)⟩
theorem ok_change {S S1 : St} {c : Chn} (hS : S1.calls = S.calls + 1 ∧ S1.made = S.made ∧ S1.files = S.files ∧ S1.names = S.names ∧ S1.lasting = S.lasting ∧ S1.since = S.since ∧ S1.q = S.q) (h : Ok S) (h1 : Ok S1) (hs : c.name.size ≤ 16) (ht : c.to.size ≤ 16) (hk : c.kind = 1 ∨ c.kind = 2) (hf : c.file ≤ S1.made) (hz : Maps.size (doS S1.names c) ≤ Maps.size S1.names + 1) : Ok { S1 with names := doS S1.names c, since := S1.since ++ [c] } := by
  obtain ⟨c1, c2, c3, c4, c5, c6, c7⟩ := hS
  obtain ⟨a1, a2, a3, a4, a5, a6, a7, a8, a9, a10, a11⟩ := h1
  have b6 := h.szn
  have b7 := h.szl
  rw [← c4] at b6
  rw [← c5, ← c6] at b7
  refine ⟨a1, a2, leads_do a3 (fun h0 => by omega), a4, ?_, ?_, ?_, a8, a9, a10, a11⟩
  · intro c' hc
    rcases List.mem_append.1 hc with hc | hc
    · exact a5 c' hc
    · rw [List.mem_singleton] at hc
      subst hc
      exact ⟨by omega, hs, ht, fun h0 => by omega, hf⟩
  · show Maps.size (doS S1.names c) ≤ S1.calls
    omega
  · show Maps.size S1.lasting + (S1.since ++ [c]).length ≤ S1.calls
    rw [List.length_append]
    simp
    omega
theorem size_do {D : DataW Unit} (hT : Tidy D) (c : Chn) : Maps.size (doS D c) ≤ Maps.size D + 1 := by
  unfold doS
  split
  · have hs := Maps.size_put hT (k := key c.name) (i64L c.file)
    split at hs <;> omega
  · split
    · split
      · have hs := Maps.size_put (hT.del (key c.name)) (k := key c.to) (i64L (lk D c.name))
        have hs2 := Maps.size_del hT (k := key c.name)
        split at hs <;> split at hs2 <;> omega
      · omega
    · split
      · have hs2 := Maps.size_del hT (k := key c.name)
        split at hs2 <;> omega
      · omega
theorem num_of_row {w : World} {a : Option Addr} {len cap : Nat} {zs : List Int}
    (h : (a = none ∧ len = 0 ∧ cap = 0 ∧ zs = []) ∨ ∃ x, a = some x ∧ len ≤ cap ∧ cap ≤ maxLen ∧ zs.length = cap ∧ (∀ i, i < zs.length → w.cell? (x.add i) = some (.int .i64 (zs.getD i 0))) ∧ ∀ z ∈ zs, (Lit.int .i64 z).wf = true) :
    NumV (· < w.heap.size) w (.slice a len cap) (zs.take len) ∧ (zs.take len).length = len := by
  rcases h with ⟨rfl, rfl, rfl, rfl⟩ | ⟨x, rfl, hl, hm, hz, hcell, hwz⟩
  · exact ⟨⟨none, 0, rfl, Nat.le_refl _, by omega, by simp, fun h => by simp at h⟩, rfl⟩
  · have hlen : (zs.take len).length = len := by rw [List.length_take]; omega
    unfold maxLen at hm
    refine ⟨⟨some x, cap, by rw [hlen], by rw [hlen]; exact hl, hm, fun k hk => hwz k (List.mem_of_mem_take hk), fun h0 => ?_⟩, hlen⟩
    rw [hlen] at h0
    obtain ⟨b, off, spot⟩ := x
    have hc := hcell 0 (by omega)
    have hspot : spot = none := by simpa [Addr.add] using World.cell?_spot hc
    subst hspot
    refine ⟨b, off, rfl, ?_, fun i hi => ?_⟩
    · have := World.block_lt_of_cell? w _ hc
      rw [add_plain] at this
      exact this
    · rw [hlen] at hi
      have := hcell i (by omega)
      rw [add_plain] at this
      rw [this]
      simp [List.getD, hi]

end Go.Proofs.YtdldpdllhnpdaaaGreat.Clep

/- What the statements with loops share: masks, texts joined and cut, one step of Bytes and Append. No conditions but the bounds. -/
namespace Go.Proofs.YtdldpdllhnpdaaaGreat.Clep
open Go.RowKit Go.Maps
set_option linter.unusedVariables false
set_option maxRecDepth 10000

theorem andm (a : Int) (m : Nat) (hm : m < 4611686018427387904) : ∃ n : Nat, bits .and .i64 a m = n ∧ n ≤ m := by
  have e : bits .and .i64 a m = IntKind.i64.wrap ((BitVec.ofInt 64 a &&& BitVec.ofInt 64 m).toNat : Int) := rfl
  have hle : (BitVec.ofInt 64 a &&& BitVec.ofInt 64 m).toNat ≤ m := by
    rw [BitVec.toNat_and]
    refine Nat.le_trans Nat.and_le_right ?_
    simp
    omega
  rw [e]
  generalize (BitVec.ofInt 64 a &&& BitVec.ofInt 64 m).toNat = k at *
  refine ⟨k, ?_, hle⟩
  simp [IntKind.wrap, IntKind.bits, IntKind.signed]
  omega
theorem str_join (a b : List Int) : strOfNums a ++ strOfNums b = strOfNums (a ++ b) := by
  apply ByteArray.ext
  simp [strOfNums, ByteArray.data_append]
/-- A text's bytes are appended. -/
theorem step_append {F : Nat → Prop} {R : Nat} {S : St} {w : World} (s : ByteArray) (zs : List Int) (hz : ∀ z ∈ zs, 0 ≤ z ∧ z < 256) {E : Nat} {S' : St} (e : appendS S s zs = (E, S')) (h : Held F w R S) (hm : S.calls < 1099511627776) (hs : s.size ≤ 70368744177664) (hl : zs.length ≤ 1099511627776) (hF : ∀ i, F i → i < w.heap.size) :
    ∃ cap w', (convert 9 40 (.string (strOfNums zs))).run Tryz.prog w = .ok (.slice (some ⟨w.heap.size, 0, none⟩) zs.length cap) w' ∧
      Hid (Calls Tryz.prog 28 #[.pointer (some ⟨R, 0, none⟩), .string s, .slice (some ⟨w.heap.size, 0, none⟩) zs.length cap] w' fun e w'' => e = .returned (.int .i64 E) ∧ Held F w'' R S' ∧ Same F w w'') := by
  obtain ⟨cap, w', hcv, _, hb, hB, _, hlt⟩ := dstr_bytes w zs hz
  refine ⟨cap, w', hcv, hide ?_⟩
  refine (append_h s _ _ cap zs e (h.wide hb.out) hm hs hB.out (by omega) (fun b off ho => by cases ho; exact .inr ⟨Nat.le_refl _, hlt.out⟩)).mono ?_
  rintro e w'' ⟨rfl, H, Sm⟩
  have hs' : Same F w w' := ⟨hb.out.os, hb.out.tape, hb.out.output, hb.out.size, fun i hi => hb.out.block i (hF i hi)⟩
  exact ⟨rfl, H.less (fun i hi => .inl hi), hs'.trans (Sm.mono (fun i hi => .inl hi))⟩
theorem NumV.at {Q : Nat → Prop} {w : World} {ao : Option Addr} {len cap : Nat} {ks : List Int} (h : NumV Q w (.slice ao len cap) ks) : ks.length = len ∧ ∀ i, i < len → ∃ b off, ao = some ⟨b, off, none⟩ ∧ Q b ∧ w.cell? ⟨b, off + i, none⟩ = some (.int .i64 (ks.getD i 0)) ∧ len ≤ 9223372036854775807 := by
  obtain ⟨ao', cap', e, h1, h2, h3, h4⟩ := h
  injection e with e1 e2 e3
  subst e1 e3
  refine ⟨e2.symm, fun i hi => ?_⟩
  obtain ⟨b, off, e1, q, hc⟩ := h4 (by omega)
  exact ⟨b, off, e1, q, hc i (by omega), by omega⟩
def bF : ByteArray := ⟨#[102]⟩
def nF : Lit := .string [102]
def ls1 (c : Nat) (A : List Int) : St := ⟨1048576, c, 0, 0, false, 1, [⟨1, A, 0⟩], .map [(nF, i64L 1)], .map [], [⟨0, bF, ⟨#[]⟩, 1⟩]⟩
def ls2 (c : Nat) (A : List Int) : St := ⟨1048576, c, 0, 0, false, 1, [⟨1, A, A.length⟩], .map [(nF, i64L 1)], .map [], [⟨0, bF, ⟨#[]⟩, 1⟩]⟩
def lsg (c : Nat) (X : List Int) (L : Nat) : St := ⟨1048576, c, 0, 0, false, 1, [⟨1, X, L⟩], .map [(nF, i64L 1)], .map [(nF, i64L 1)], []⟩
theorem last1 : createS (newS 1048576) bF = (0, ls1 1 []) := by kernel_rfl
theorem last2 (c : Nat) (A p : List Int) (h : A.length + p.length ≤ 250000) : appendS (ls1 c A) bF p = (0, ls1 (c + 1) (A ++ p)) := by
  have e : appendS (ls1 c A) bF p = if 250000 < A.length + p.length then (2, (beginS (ls1 c A)).2) else if 1048576 < A.length + 0 + p.length then (15, (beginS (ls1 c A)).2) else (0, ls1 (c + 1) (A ++ p)) := by kernel_rfl
  rw [e, if_neg (by omega), if_neg (by omega)]
theorem last3 (c : Nat) (A : List Int) : syncS (ls1 c A) bF = (0, ls2 (c + 1) A) := by kernel_rfl
theorem last4 (c : Nat) (A : List Int) : syncDirS (ls2 c A) = (0, lsg (c + 1) A A.length) := by kernel_rfl
theorem last5 (c L : Nat) (X p : List Int) (h : X.length + p.length ≤ 250000) : appendS (lsg c X L) bF p = (0, lsg (c + 1) (X ++ p) L) := by
  have e : appendS (lsg c X L) bF p = if 250000 < X.length + p.length then (2, (beginS (lsg c X L)).2) else if 1048576 < X.length + 0 + p.length then (15, (beginS (lsg c X L)).2) else (0, lsg (c + 1) (X ++ p) L) := by kernel_rfl
  rw [e, if_neg (by omega), if_neg (by omega)]
theorem last6 (c L : Nat) (X : List Int) (ks : List Int) : crashS (lsg c X L) ks = lsg c (X.take (L + keepN ⟨1, X, L⟩ ks)) (L + keepN ⟨1, X, L⟩ ks) := by kernel_rfl
theorem last7 (c L : Nat) (X : List Int) : readS (lsg c X L) bF = (0, X) := by kernel_rfl
theorem last8 (c L : Nat) (X : List Int) : (if (lsg c X L).dead then 0 else usedS (lsg c X L) : Nat) = X.length := by
  show X.length + 0 = _
  rfl

end Go.Proofs.YtdldpdllhnpdaaaGreat.Clep

/- What Stop, Fail and Dead of a Disk do when called (walks over the translated program): for numbers of at most 2^40, any Disk. -/
namespace Go.Proofs.YtdldpdllhnpdaaaGreat.Clep
open Go.RowKit Go.Maps
set_option linter.unusedVariables false
set_option maxRecDepth 10000

theorem fail_h {F : Nat → Prop} {R : Nat} {S : St} {w : World} (n : Nat) (hn : n ≤ 1099511627776) (h : Held F w R S) :
    Calls Tryz.prog 9 #[.pointer (some ⟨R, 0, none⟩), .int .i64 n] w fun e w' => e = .returned (.tuple #[]) ∧ Held F w' R { S with fail := n } ∧ Same F w w' := by
  obtain ⟨G, D, hF⟩ := h
  have c3 := D.cells.1.2.2.2.1
  have f3 := D.cells.2.2 3
  have D2 := D.put (S' := { S with fail := n }) 3 (.int .i64 n) rfl rfl rfl rfl rfl (Nat.le_refl _) (D.ok.scal _ _ _ _ (Nat.le_refl _) D.ok.stp (by omega))
  have HE := hide (Held.keep hF D2 (kept_set (G := G) (b := R) 3 (.int .i64 n) (by rw [D.tR]; omega)))
  have hqz : ¬ ((n : Int) < 0) := by omega
  have hmx : max (n : Int) 0 = n := by omega
  clear D D2 hF
  go_enter Tryz.func9, Tryz.ntmps9
  go_wp2
  go_end0
  exact ⟨rfl, HE.out⟩
def apB (b : Nat × St) (s : ByteArray) (zs : List Int) : Nat × St := if b.1 ≠ 0 then b else match fileAt b.2.files (lk b.2.names s) with
    | none => (11, b.2)
    | some f => if 250000 < f.bs.length + zs.length then (2, b.2)
      else if b.2.q < usedS b.2 + zs.length then (15, b.2)
      else (0, { b.2 with files := updF b.2.files f.num (growF zs) })
theorem appendS_eq (S : St) (s : ByteArray) (zs : List Int) (h : okName s = true) : appendS S s zs = apB (beginS S) s zs := by
  unfold appendS
  rw [if_neg (by rw [h]; simp)]
  rfl
def sts (n f k : Nat) (X : List Int) : St := ⟨1048576, 2 + k, n - k, f - min k n, decide (n ≤ k), 1, [⟨1, X, 0⟩], .map [(nF, i64L 1)], .map [(nF, i64L 1)], []⟩
def stW (n f k : Nat) : Nat := if n < k + 1 then 50 else if k + 1 = f then 15 else 0
theorem stops1 : syncDirS (ls1 1 []) = (0, lsg 2 [] 0) := by kernel_rfl
theorem stops2 (n f : Nat) : ({ ({ (lsg 2 [] 0) with stop := n, dead := decide (n = 0) } : St) with fail := f } : St) = sts n f 0 [] := by
  unfold sts lsg
  simp
theorem stops_begin (n f k : Nat) (X : List Int) (h : k < n) : beginS (sts n f k X) = (if f = k + 1 then 15 else 0, sts n f (k + 1) X) := by
  unfold beginS
  rw [if_neg (by show ¬ (decide (n ≤ k) = true); simp; omega)]
  have e1 : (if (sts n f k X).fail = 1 then 15 else 0) = (if f = k + 1 then 15 else 0) := by
    show (if f - min k n = 1 then 15 else 0) = _
    rw [show min k n = k from by omega]
    by_cases hf : f = k + 1
    · rw [if_pos hf, if_pos (by omega)]
    · rw [if_neg hf, if_neg (by omega)]
  rw [e1]
  congr 1
  unfold sts
  simp only
  have a1 : 2 + k + 1 = 2 + (k + 1) := by omega
  have a2 : n - k - 1 = n - (k + 1) := by omega
  have a3 : f - min k n - 1 = f - min (k + 1) n := by omega
  have a4 : decide (n - k = 1) = decide (n ≤ k + 1) := by rw [Bool.eq_iff_iff]; simp; omega
  rw [a1, a2, a3, a4]
theorem stops3 (n f k : Nat) (X p : List Int) (hX : X.length + p.length ≤ 250000) : appendS (sts n f k X) bF p = (stW n f k, sts n f (k + 1) (if stW n f k = 0 then X ++ p else X)) := by
  by_cases h : n ≤ k
  · have hb : beginS (sts n f k X) = (50, sts n f (k + 1) X) := by
      unfold beginS
      rw [if_pos (by show decide (n ≤ k) = true; simpa using h)]
      congr 1
      unfold sts
      simp only
      have a1 : 2 + k + 1 = 2 + (k + 1) := by omega
      have a2 : n - k = n - (k + 1) := by omega
      have a3 : min k n = min (k + 1) n := by omega
      have a4 : decide (n ≤ k) = decide (n ≤ k + 1) := by rw [Bool.eq_iff_iff]; simp; omega
      rw [a1, a2, a3, a4]
    have hw : stW n f k = 50 := by unfold stW; rw [if_pos (by omega)]
    rw [appendS_eq _ _ _ (by decide), hb, hw, if_neg (show ¬ (50 = 0) by omega)]
    rfl
  · have hb := stops_begin n f k X (by omega)
    rw [appendS_eq _ _ _ (by decide), hb]
    by_cases hf : f = k + 1
    · have hw : stW n f k = 15 := by unfold stW; rw [if_neg (by omega), if_pos hf.symm]
      rw [if_pos hf, hw, if_neg (show ¬ (15 = 0) by omega)]
      rfl
    · have hw : stW n f k = 0 := by unfold stW; rw [if_neg (by omega), if_neg (fun e => hf e.symm)]
      rw [if_neg hf, hw, if_pos rfl]
      have e : apB (0, sts n f (k + 1) X) bF p = if 250000 < X.length + p.length then (2, sts n f (k + 1) X) else if 1048576 < X.length + 0 + p.length then (15, sts n f (k + 1) X) else (0, sts n f (k + 1) (X ++ p)) := by kernel_rfl
      rw [e, if_neg (by omega), if_neg (by omega)]
theorem stops4 (n f k : Nat) (X : List Int) : crashS (sts n f k X) [] = lsg (2 + k) X X.length := by
  have e : crashS (sts n f k X) [] = lsg (2 + k) (X.take (0 + keepN ⟨1, X, 0⟩ [])) (0 + keepN ⟨1, X, 0⟩ []) := by kernel_rfl
  have hk : keepN ⟨1, X, 0⟩ [] = X.length := by
    unfold keepN
    simp only
    split <;> omega
  rw [e, hk, Nat.zero_add, List.take_length]

end Go.Proofs.YtdldpdllhnpdaaaGreat.Clep
