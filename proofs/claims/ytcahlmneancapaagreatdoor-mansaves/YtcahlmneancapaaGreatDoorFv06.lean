/- What Append of a Disk does when called (a walk over the translated program): for any Disk of fewer than 2^40 calls, any name and any bytes of at most 2^46. -/
import Derived.Test.YtcahlmneancapaaGreatDoorFv05
namespace Go.Proofs.YtcahlmneancapaaGreatDoor.Clep
open Go.RowKit Go.Maps
set_option linter.unusedVariables false
set_option maxRecDepth 10000

def updF (fs : List Fl) (n : Nat) (g : Fl → Fl) : List Fl := fs.map fun f => if f.num = n then g f else f
def growF (zs : List Int) (f : Fl) : Fl := { f with bs := f.bs ++ zs }
def appendS (S : St) (s : ByteArray) (zs : List Int) : Nat × St :=
  if okName s = false then (10, S)
  else if (beginS S).1 ≠ 0 then beginS S
  else match fileAt (beginS S).2.files (lk (beginS S).2.names s) with
    | none => (11, (beginS S).2)
    | some f => if 250000 < f.bs.length + zs.length then (2, (beginS S).2)
      else if (beginS S).2.q < usedS (beginS S).2 + zs.length then (15, (beginS S).2)
      else (0, { (beginS S).2 with files := updF (beginS S).2.files f.num (growF zs) })
theorem Bs.kept {G G' : Gh} {w w' : World} {ao : Option Addr} {len cap : Nat} {zs : List Int} (h : Bs w ao len cap zs) (hk : Kept G G' w w') (ht : 0 < len → ∀ b off, ao = some ⟨b, off, none⟩ → G.τ b = 0) : Bs w' ao len cap zs := by
  refine ⟨h.1, h.2.1, h.2.2.1, fun h0 => ?_⟩
  obtain ⟨b, off, ho, hc⟩ := h.2.2.2 h0
  refine ⟨b, off, ho, fun i hi => ?_⟩
  rw [World.cell?_of_block (w := w) (hk.block b (World.block_lt_of_cell? w _ (hc i hi)) (ht h0 b off ho))]
  exact hc i hi
theorem updF_nums (fs : List Fl) (n : Nat) (g : Fl → Fl) (hg : ∀ f, (g f).num = f.num) : (updF fs n g).map (·.num) = fs.map (·.num) := by
  unfold updF
  rw [List.map_map]
  refine List.map_congr_left fun f _ => ?_
  show (if f.num = n then g f else f).num = f.num
  split
  · exact hg f
  · rfl
theorem updF_mem {fs : List Fl} {n : Nat} {g : Fl → Fl} {f : Fl} (h : f ∈ updF fs n g) : ∃ f0 ∈ fs, f = if f0.num = n then g f0 else f0 := by
  obtain ⟨f0, h0, e⟩ := List.mem_map.1 h
  exact ⟨f0, h0, e.symm⟩
theorem updF_at (fs : List Fl) (n : Nat) (g : Fl → Fl) (hg : ∀ f, (g f).num = f.num) (k : Int) : fileAt (updF fs n g) k = (fileAt fs k).map fun f => if f.num = n then g f else f := by
  unfold fileAt updF
  rw [List.find?_map]
  congr 2
  funext f
  show (((if f.num = n then g f else f).num : Int) == k) = ((f.num : Int) == k)
  split
  · rw [hg]
  · rfl
theorem leads_upd {fs : List Fl} {D : DataW Unit} {n : Nat} {g : Fl → Fl} (hg : ∀ f, (g f).num = f.num) (h : Leads fs D) : Leads (updF fs n g) D := by
  intro p hp
  obtain ⟨f, hf, e⟩ := h p hp
  refine ⟨_, List.mem_map.2 ⟨f, hf, rfl⟩, ?_⟩
  rw [e]
  show _ = i64L (if f.num = n then g f else f).num
  split
  · rw [hg]
  · rfl
theorem ok_upd {S : St} {n : Nat} {g : Fl → Fl} (hg : ∀ f, (g f).num = f.num) (h : Ok S) : Ok { S with files := updF S.files n g } := by
  obtain ⟨a1, a2, a3, a4, a5, a6, a7, a8, a9, a10, a11⟩ := h
  refine ⟨?_, fun f hf => ?_, leads_upd hg a3, leads_upd hg a4, fun c hc => ?_, a6, a7, a8, a9, a10, a11⟩
  · show (updF S.files n g).Pairwise _
    have : (S.files.map (·.num)).Pairwise (fun a b => a < b) := List.pairwise_map.2 a1
    rw [← updF_nums S.files n g hg] at this
    exact List.pairwise_map.1 this
  · obtain ⟨f0, h0, rfl⟩ := updF_mem hf
    have := a2 f0 h0
    show 1 ≤ (if f0.num = n then g f0 else f0).num ∧ (if f0.num = n then g f0 else f0).num ≤ S.made
    split
    · rw [hg]; exact this
    · exact this
  · obtain ⟨b1, b2, b3, b4, b5⟩ := a5 c hc
    refine ⟨b1, b2, b3, fun h0 => ?_, b5⟩
    obtain ⟨f, hf, e⟩ := b4 h0
    refine ⟨_, List.mem_map.2 ⟨f, hf, rfl⟩, ?_⟩
    rw [e]
    show _ = (if f.num = n then g f else f).num
    split
    · rw [hg]
    · rfl
theorem filesD_upd {β : Nat → Nat} {fs : List Fl} {D : DataW Unit} {n : Nat} {g : Fl → Fl} (hg : ∀ f, (g f).num = f.num) (h : FilesD β fs D) : FilesD β (updF fs n g) D := by
  intro k
  rw [(h k).1, (h k).2, updF_at fs n g hg]
  cases fileAt fs k with
  | none => exact ⟨rfl, rfl⟩
  | some f =>
    refine ⟨?_, rfl⟩
    show i64L (β f.num) = i64L (β (if f.num = n then g f else f).num)
    split
    · rw [hg]
    · rfl
theorem Turn.mono {τ : Nat → Nat} {t t' : Nat → Prop} {w w' : World} (h : Turn τ t w w') (ht : ∀ n, t n → t' n) : Turn τ t' w w' := ⟨h.1, fun i hi hn => h.2 i hi (fun e => hn (ht _ e))⟩
/-- A file of a Disk has turned, and nothing else. -/
theorem file_turn {R : Nat} {S : St} {G G' : Gh} {w w' : World} {f : Fl} {g : Fl → Fl} (hg : ∀ f, (g f).num = f.num) (h : DiskIs w R S G) (hf : f ∈ S.files) (T : Turn G.τ (fun n => n = 6 ∨ n = 6 + 2 * f.num ∨ n = 7 + 2 * f.num) w w')
    (hos : w'.os = w.os ∧ w'.tape = w.tape ∧ w'.output = w.output) (e1 : G' = { G with τ := G'.τ }) (ht : ∀ i, G'.τ i ≠ G.τ i → w.heap.size ≤ i ∧ i < w'.heap.size ∧ G'.τ i = 7 + 2 * f.num) (F : FileIs w' G' (g f)) :
    DiskIs w' R { S with files := updF S.files f.num g } G' ∧ Kept G G' w w' := by
  obtain ⟨D, f1, f2, f3⟩ := h.fm
  have b1 : G'.bf = G.bf := by rw [e1]
  have b2 : G'.bn = G.bn := by rw [e1]
  have b3 : G'.bl = G.bl := by rw [e1]
  have b4 : G'.sv = G.sv := by rw [e1]
  have b5 : G'.β = G.β := by rw [e1]
  have hn : ∀ i, G.τ i ≠ 0 → G'.τ i = G.τ i := fun i h0 => by
    by_cases e : G'.τ i = G.τ i
    · exact e
    · exact absurd (h.top i (ht i e).1) h0
  refine ⟨⟨?_, ⟨D, by rw [b1]; exact map_keep T f1 (by rw [h.tf]; omega), by rw [b5]; exact filesD_upd hg f2, f3⟩, by rw [b2]; exact map_keep T h.nm (by rw [h.tn]; omega), by rw [b3]; exact map_keep T h.lm (by rw [h.tl]; omega),
    by rw [b4]; exact owns_keep T h.sc (fun g hg => by rw [h.ts g hg]; omega), fun f' hf' => ?_, ?_, ?_, ?_, ?_, ?_, ?_, ok_upd hg h.ok⟩, ?_⟩
  · have := drow_keep T h.row (by rw [h.tR]; omega)
    rw [this]
    simp only [dRow, b1, b2, b3, b4]
  · obtain ⟨f0, h0, rfl⟩ := updF_mem hf'
    by_cases e : f0.num = f.num
    · rw [if_pos e]
      have : f0 = f := by
        have q1 := fileAt_of h.ok.rise h0
        have q2 := fileAt_of h.ok.rise hf
        rw [e, q2] at q1
        exact (Option.some.inj q1).symm
      rw [this]
      exact F
    · rw [if_neg e]
      have hp := (h.ok.nums f0 h0).1
      exact (file_keep T (h.files f0 h0) (by omega) (by omega)).retag (by rw [b5]) fun i hi => hn i (by omega)
  · rw [hn R (by rw [h.tR]; omega)]; exact h.tR
  · rw [b1, hn _ (by rw [h.tf]; omega)]; exact h.tf
  · rw [b2, hn _ (by rw [h.tn]; omega)]; exact h.tn
  · rw [b3, hn _ (by rw [h.tl]; omega)]; exact h.tl
  · intro g' hg'
    rw [b4] at hg'
    rw [hn _ (by rw [h.ts g' hg']; omega)]
    exact h.ts g' hg'
  · intro i hi
    by_cases e : G'.τ i = G.τ i
    · rw [e]; exact h.top i (Nat.le_trans T.1 hi)
    · have := (ht i e).2.1; omega
  · refine ⟨hos.1, hos.2.1, hos.2.2, T.1, fun i hi h0 => T.2 i hi (by rw [h0]; omega), fun i hi h0 => ?_⟩
    by_cases e : G'.τ i = G.τ i
    · rw [e]; exact h0
    · have := (ht i e).1; omega

end Go.Proofs.YtcahlmneancapaaGreatDoor.Clep

/- What Append of a Disk does when called: the walk over the translated program. For any Disk of fewer than 2^40 calls, any name and any bytes of at most 2^46 that are none of the Disk's own. -/
namespace Go.Proofs.YtcahlmneancapaaGreatDoor.Clep
open Go.RowKit Go.Maps
set_option linter.unusedVariables false
set_option maxRecDepth 10000

/-- An append of bytes to a row that is owned: where the new row lies. -/
theorem wpList_append_at {w : World} {ops : Array Oper} {rest : List Oper} {o : Oper} {a : Act} {Q : Exit → Act → World → Prop} (hgd : o.guard = none) (s x : Operand)
    (ho : o.op = .call { callee := .builtin .append, args := #[s, x], argTypes := #[44, 44] })
    (v : Value) (xs : List Int) (hs : a.eval s = v) (hown : Own w 0 v xs) (ao : Option Addr) (len cap : Nat) (ys : List Int) (hx : a.eval x = .slice ao len cap) (hb : Bs w ao len cap ys)
    (hlen : xs.length + len ≤ 70368744177664)
    (h : ∀ ao' n' cap' w', Own w' 0 (.slice ao' n' cap') (xs ++ ys) → w.grownBy w' v.ownBlock → ((Value.slice ao' n' cap').ownBlock = v.ownBlock ∨ (Value.slice ao' n' cap').ownBlock = some w.heap.size) → wpList Tryz.prog ops Q rest (a.put o.dst (.slice ao' n' cap')) w') : wpList Tryz.prog ops Q (o :: rest) a w := by
  have lit : ∀ {w' : World} {v' : Value} {zs : List Int}, Own w' 0 v' zs → ∃ ao' n' cap', v' = .slice ao' n' cap' := by
    rintro w' v' zs ⟨_, ⟨rfl, _⟩ | ⟨g, cap, cur, rfl, _⟩⟩
    · exact ⟨_, _, _, rfl⟩
    · exact ⟨_, _, _, rfl⟩
  obtain ⟨i0, hi, hz0, hz1, hz2⟩ := info_parts info5
  cases ao with
  | none =>
    obtain ⟨rfl, rfl⟩ := hb.2.1.2 rfl
    have hy : ys = [] := List.eq_nil_of_length_eq_zero hb.1
    subst hy
    obtain ⟨ao', n', cap', rfl⟩ := lit hown
    exact wpList_append_own_none hgd s x 44 ho 0 5 i0 1 Tryz.underlying44 hi _ xs.length (bv xs) hs hown hx (h ao' n' cap' w (by rwa [List.append_nil]) ⟨rfl, rfl, rfl, Nat.le_refl _, fun _ _ _ => rfl⟩ (.inl rfl))
  | some ad =>
    refine wpList_append_own_at _ hgd s x 44 ho 0 5 i0 (.int .u8 0) 1 1 Tryz.underlying44 hi hz0 hz1 hz2 rfl (by decide) v xs.length (bv xs) hs hown ad len cap (bv ys) hx (by rw [bv_len, hb.1]; omega) (bs_cells hb ad rfl) (bv_one ys)
      (by unfold maxLen; omega) (by omega) (Nat.zero_le _) ?_
    intro v' w' h1 h2 _ h4
    have hO : Own w' 0 v' (xs ++ ys) := by
      unfold Own
      rw [List.length_append, hb.1, show bv (xs ++ ys) = bv xs ++ bv ys from by simp [bv]]
      exact h1
    obtain ⟨ao', n', cap', rfl⟩ := lit hO
    exact h ao' n' cap' w' hO h2 h4
theorem grow_file {R : Nat} {S : St} {G : Gh} {w w1 : World} {f : Fl} {ao : Option Addr} {cap : Nat} {zs : List Int} {v' : Value} (h : DiskIs w R S G) (hf : f ∈ S.files) (hl : f.bs.length + zs.length ≤ 250000) (hz : ∀ z ∈ zs, 0 ≤ z ∧ z < 256)
    (hc : w.heap[G.β f.num]? = some (.cells #[.slice ao f.bs.length cap, .int .i64 f.lasts] 109 (0, 0))) (hbk : ∀ g, (Value.slice ao f.bs.length cap).ownBlock = some g → G.τ g = 7 + 2 * f.num)
    (o1 : Own w1 0 v' (f.bs ++ zs)) (g1 : w.grownBy w1 (Value.slice ao f.bs.length cap).ownBlock) (l1 : v'.ownBlock = (Value.slice ao f.bs.length cap).ownBlock ∨ v'.ownBlock = some w.heap.size) :
    ∃ G', DiskIs (w1.setCell ⟨G.β f.num, 0, none⟩ v') R { S with files := updF S.files f.num (growF zs) } G' ∧ Kept G G' w (w1.setCell ⟨G.β f.num, 0, none⟩ v') := by
  have F := h.files f hf
  have hβ : G.β f.num < w.heap.size := (Array.getElem?_eq_some_iff.1 hc).1
  have hne : ∀ i, G.τ i ≠ 7 + 2 * f.num → some i ≠ (Value.slice ao f.bs.length cap).ownBlock := fun i hi e => hi (hbk i e.symm)
  have hc1 : w1.heap[G.β f.num]? = some (.cells #[.slice ao f.bs.length cap, .int .i64 f.lasts] 109 (0, 0)) := by
    rw [g1.block _ hβ (hne _ (by rw [F.tag]; omega))]; exact hc
  have T : Turn G.τ (fun n => n = 6 + 2 * f.num ∨ n = 7 + 2 * f.num) w (w1.setCell ⟨G.β f.num, 0, none⟩ v') := ⟨by simpa using g1.size, fun i hi ht => by
    rw [heap_setCell_other w1 ⟨G.β f.num, 0, none⟩ i _ (fun e => ht (.inl (by rw [show i = G.β f.num from e]; exact F.tag)))]
    exact g1.block i hi (hne i (fun e => ht (.inr e)))⟩
  have hvlt : ∀ g, v'.ownBlock = some g → g < w1.heap.size := fun g hg => (World.ownsRow.lt o1 g hg).2
  have hvt : ∀ g, v'.ownBlock = some g → G.τ g = 7 + 2 * f.num ∨ g = w.heap.size := fun g hg => by
    rcases l1 with e | e
    · rw [e] at hg; exact .inl (hbk g hg)
    · rw [e] at hg; exact .inr (Option.some.inj hg).symm
  have hne2 : ∀ g, v'.ownBlock = some g → g ≠ G.β f.num := fun g hg e => by
    rcases hvt g hg with e' | e'
    · rw [e, F.tag] at e'; omega
    · omega
  let τ' : Nat → Nat := fun i => if v'.ownBlock = some i then 7 + 2 * f.num else G.τ i
  have := file_turn (S := S) (G := G) (G' := { G with τ := τ' }) (w' := w1.setCell ⟨G.β f.num, 0, none⟩ v') (f := f) (g := growF zs) (fun f => rfl) h hf (T.mono fun n hn => .inr hn) ⟨g1.os, g1.tape, g1.output⟩ rfl ?_ ?_
  · exact ⟨_, this⟩
  · intro i hi
    show w.heap.size ≤ i ∧ i < (w1.setCell ⟨G.β f.num, 0, none⟩ v').heap.size ∧ τ' i = _
    have hi' : v'.ownBlock = some i := by
      by_cases e : v'.ownBlock = some i
      · exact e
      · exact absurd (show τ' i = G.τ i from if_neg e) hi
    have hi2 : τ' i = 7 + 2 * f.num := if_pos hi'
    rcases hvt i hi' with e | e
    · exact absurd (hi2.trans e.symm) hi
    · exact ⟨by omega, by simpa using hvlt i hi', hi2⟩
  · refine ⟨⟨v', ?_, ?_, fun g hg => if_pos hg⟩, ?_, ?_, ?_, ?_⟩
    · show (w1.setCell ⟨G.β f.num, 0, none⟩ v').heap[G.β f.num]? = _
      rw [heap_setCell_same w1 _ 0 _ _ _ hc1]
      rfl
    · exact owns_keep (τ := id) (t := fun n => n = G.β f.num) ⟨by simp, fun i _ hi => heap_setCell_other w1 ⟨G.β f.num, 0, none⟩ i _ hi⟩ o1 (fun g hg => hne2 g hg)
    · show (if v'.ownBlock = some (G.β f.num) then 7 + 2 * f.num else G.τ (G.β f.num)) = 6 + 2 * f.num
      rw [if_neg (fun e => hne2 _ e rfl)]
      exact F.tag
    · intro z hz'
      rcases List.mem_append.1 hz' with h' | h'
      · exact F.rng z h'
      · exact hz z h'
    · show (f.bs ++ zs).length ≤ 250000
      rw [List.length_append]; exact hl
    · show f.lasts ≤ (f.bs ++ zs).length
      rw [List.length_append]; have := F.lst; omega

theorem q_drew {w2 W : World} {p : Addr} {v : Value} (h : Below w2.heap.size w2 W ∧ W.cell? p = some v) : Below w2.heap.size w2 W.drew ∧ W.drew.cell? p = some v := ⟨h.1.drew, h.2⟩
theorem q_first {w2 : World} {p : Addr} {v : Value} (h : w2.cell? p = some v) : Below w2.heap.size w2 w2.drew ∧ w2.drew.cell? p = some v := ⟨(Below.refl _ _).drew, h⟩
theorem q_step {w2 W W' : World} {p : Addr} {v : Value} (h : Below w2.heap.size w2 W ∧ W.cell? p = some v) (hb : Below W.heap.size W W') : Below w2.heap.size w2 W' ∧ W'.cell? p = some v :=
  ⟨h.1.trans (hb.mono h.1.size), by rw [hb.cell (World.block_lt_of_cell? W p h.2)]; exact h.2⟩
set_option maxHeartbeats 800000 in
set_option maxRecDepth 4000 in
theorem append_any (R : Nat) (S : St) (G : Gh) (s : ByteArray) (ao : Option Addr) (len cap : Nat) (zs : List Int) (w : World) (h : DiskIs w R S G) (hm : S.calls < 1099511627776) (hs : s.size ≤ 70368744177664)
    (hb : Bs w ao len cap zs) (hl : len ≤ 70368744177664) (ht : 0 < len → ∀ b off, ao = some ⟨b, off, none⟩ → G.τ b = 0 ∧ b < w.heap.size) :
    Calls Tryz.prog 22 #[.pointer (some ⟨R, 0, none⟩), .string s, .slice ao len cap] w fun e w' => e = .returned (.int .i64 (appendS S s zs).1) ∧ ∃ G', DiskIs w' R (appendS S s zs).2 G' ∧ Kept G G' w w' := by
  have H := hide h
  have BA := (Below.refl w.heap.size w).alloc (Nat.le_refl _) (.cells #[.string s] 9)
  have BG := hide (begin_any R S G (some ⟨w.heap.size, 0, none⟩) [s] _ (h.below BA) (by omega) (by simp) (txts_one w s) (by simpa using hs))
  have HA := hide BA
  have HB := hide hb
  have hlz := hide hb.1
  have HT := hide ht
  clear h BA hb ht
  go_enter Tryz.func22, Tryz.ntmps22
  go_wp2_with fail
  refine BG.out.mono ?_
  clear BG
  generalize w.alloc (.cells #[.string s] 9) = wA at *
  rintro e w1 (⟨hno, rfl, rfl⟩ | ⟨hyes, rfl, D1, K1⟩)
  · have hc : appendS S s zs = (10, S) := by unfold appendS; rw [if_pos (by simpa using hno)]
    have HC := hide hc
    clear hc
    go_wp2
    go_ret
    exact ⟨by rw [HC.out]; rfl, by rw [HC.out]; exact ⟨G, H.out.below HA.out, Kept.of_below HA.out⟩⟩
  · have hk := begin_keeps S
    have hy : okName s = true := by simpa using hyes
    obtain ⟨e1, S1, hb⟩ : ∃ e1 S1, beginS S = (e1, S1) := ⟨_, _, rfl⟩
    have hc0 : appendS S s zs = if e1 ≠ 0 then (e1, S1) else match fileAt S1.files (lk S1.names s) with | none => (11, S1) | some f => if 250000 < f.bs.length + zs.length then (2, S1) else if S1.q < usedS S1 + zs.length then (15, S1) else (0, { S1 with files := updF S1.files f.num (growF zs) }) := by
      unfold appendS; rw [if_neg (by rw [hy]; simp), hb]; try rfl
    have HC := hide hc0
    have KK := hide ((Kept.of_below (G := G) HA.out).trans K1)
    rw [hb] at D1 hk ⊢
    have HD := hide D1
    have HK := hide hk
    clear hc0 K1 D1 hk hyes hb
    simp only at HD HK ⊢
    by_cases he : e1 = 0
    · subst he
      have hF := hide (find_disk R S1 G s w1 HD.out hs)
      go_wp2_with fail
      refine hF.out.mono ?_
      rintro e w2 ⟨rfl, b2⟩
      have HD2 := hide (HD.out.below b2)
      have KK2 := hide (KK.out.trans (Kept.of_below b2))
      clear b2 hF KK HD
      cases hf : fileAt S1.files (lk S1.names s) with
      | none =>
        have HC2 := hide (show appendS S s zs = (11, S1) by rw [HC.out, hf]; rfl)
        simp only [ptrOf]
        go_wp2
        go_ret
        exact ⟨by rw [HC2.out]; rfl, by rw [HC2.out]; exact ⟨G, HD2.out, KK2.out⟩⟩
      | some f =>
        simp only [ptrOf]
        have HC2 := hide (show appendS S s zs = if 250000 < f.bs.length + zs.length then (2, S1) else if S1.q < usedS S1 + zs.length then (15, S1) else (0, { S1 with files := updF S1.files f.num (growF zs) }) by rw [HC.out, hf]; rfl)
        have hmem := (fileAt_mem hf).1
        obtain ⟨fo, fc, hc, hO, hbk, hcm, hB⟩ := (HD2.out.files f hmem).cells
        have hfl := (HD2.out.files f hmem).len
        have cf := cell_of (i := 0) hc rfl
        simp at cf
        have HCc := hide hc
        have HOo := hide hO
        have HBk := hide hbk
        have hcl := HK.out.1
        have hcl2 : S1.calls ≤ 1099511627776 := by omega
        clear HC hf hc hO hbk hB hcl hcm
        obtain ⟨L, hL⟩ : ∃ L, L = f.bs.length := ⟨_, rfl⟩
        have HL := hide hL
        rw [← hL] at cf hfl
        clear hL
        by_cases hlong : 250000 < f.bs.length + zs.length
        · have hlong' : ¬ ((len : Int) ≤ 250000 - (L : Int)) := by have := hlz.out; have := HL.out; omega
          have HLo := hide hlong
          clear hlong
          go_wp2
          go_ret
          exact ⟨by rw [HC2.out, if_pos HLo.out]; rfl, by rw [HC2.out, if_pos HLo.out]; exact ⟨G, HD2.out, KK2.out⟩⟩
        · have hlong' : ((len : Int) ≤ 250000 - (L : Int)) := by have := hlz.out; have := HL.out; omega
          have HLo := hide hlong
          clear hlong
          have hSz := hide (fun W (hW : DiskIs W R S1 G) => size_any R S1 G W hW hcl2)
          have q0 := HD2.out.cells.1.1
          have hu : usedS S1 ≤ 274877906944000000 := by
            have h1 := upto_le HD2.out (fun _ => false)
            rw [upto_end S1 (fun _ => false) (fun _ => rfl)] at h1
            omega
          have hlen : len ≤ 250000 := by omega
          have hqq := HD2.out.ok.quo
          have hwr : IntKind.i64.wrap ((usedS S1 : Int) + (len : Int)) = (usedS S1 : Int) + (len : Int) := by
            simp only [IntKind.wrap, IntKind.bits, IntKind.signed]
            simp
            omega
          go_wp2_with fail
          go_region_held_law (fun W => Below w2.heap.size w2 W ∧ W.cell? ⟨R, 0, none⟩ = some (.int .i64 S1.q))
            (first | exact q_drew (by assumption) | exact q_first (by assumption) | exact q_step (by assumption) (by assumption))
            (first | (go_at_call 52; refine (hSz.out _ (HD2.out.below (And.left (by assumption)))).mono ?_; rintro e w' ⟨rfl, hb'⟩))
          have hb3 : Below w2.heap.size w2 w' := ⟨hb'.os, hb'.tape, hb'.output, hb'.size, hb'.block⟩
          have HD3 := hide (HD2.out.below hb3)
          have KK3 := hide (KK2.out.trans (Kept.of_below hb3))
          clear hb3 hb' q0 HD2 KK2 hSz cf HCc HOo HBk
          generalize hU : usedS S1 = U at *
          have hHU := hide hU
          clear hU
          by_cases hq : S1.q < U + zs.length
          · have HQ := hide hq
            have hq' : ((S1.q : Int) < (U : Int) + (len : Int)) := by have := hlz.out; omega
            clear hq
            go_wp2
            go_ret
            exact ⟨by rw [HC2.out, if_neg HLo.out, if_pos HQ.out]; rfl, by rw [HC2.out, if_neg HLo.out, if_pos HQ.out]; exact ⟨G, HD3.out, KK3.out⟩⟩
          · have HQ := hide hq
            have hq' : ¬ ((S1.q : Int) < (U : Int) + (len : Int)) := by have := hlz.out; omega
            clear hq
            obtain ⟨fo3, fc3, hc3, hO3, hbk3, hcm3, hB3⟩ := (HD3.out.files f hmem).cells
            have cf3 := cell_of (i := 0) hc3 rfl
            simp at cf3
            have HB3 := hide (HB.out.kept KK3.out (fun h0 b off ho => (HT.out h0 b off ho).1))
            have GF := hide (fun w4 v' => grow_file (w1 := w4) (v' := v') (zs := zs) HD3.out hmem (by have := HLo.out; omega) (bs_range HB.out) hc3 hbk3)
            have HO3 := hide hO3
            have HF3 := hide (show ∀ w4, w'.grownBy w4 (Value.slice fo3 f.bs.length fc3).ownBlock → w4.cell? ⟨G.β f.num, 0, none⟩ = some (.slice fo3 f.bs.length fc3) ∧ w4.frozen? ⟨G.β f.num, 0, none⟩ = false from fun w4 g4 => by
              have hr : w4.heap[G.β f.num]? = some (.cells #[.slice fo3 f.bs.length fc3, .int .i64 f.lasts] 109 (0, 0)) := by
                rw [g4.block _ (Array.getElem?_eq_some_iff.1 hc3).1 (fun e => by have e1 := hbk3 _ e.symm; rw [(HD3.out.files f hmem).tag] at e1; omega)]
                exact hc3
              exact ⟨cell_of hr rfl, frozen_of_row w4 _ _ _ _ hr⟩)
            have hfb : f.bs.length + len ≤ 70368744177664 := by have := HL.out; omega
            clear hc3 hO3 hbk3 hcm3 hB3
            go_wp2_with (first
              | (at_builtin; refine wpList_append_at rfl _ _ rfl _ f.bs rfl HO3.out ao len cap zs rfl HB3.out hfb ?_; intro ao4 n4 cap4 w4 o4 g4 l4; have c4 := (HF3.out w4 g4).1; have f4 := (HF3.out w4 g4).2)
              | fail)
            have GG := hide (GF.out w4 _ o4 g4 l4)
            clear o4 g4 l4 GF HF3 HO3
            go_wp2
            go_ret
            obtain ⟨G', D', K'⟩ := GG.out
            exact ⟨by rw [HC2.out, if_neg HLo.out, if_neg HQ.out]; rfl, by rw [HC2.out, if_neg HLo.out, if_neg HQ.out]; exact ⟨G', D', KK3.out.trans K'⟩⟩
    · have HC2 := hide (show appendS S s zs = (e1, S1) by rw [HC.out, if_pos he])
      have hne : ¬ ((e1 : Int) = 0) := by omega
      go_wp2
      go_ret
      exact ⟨by rw [HC2.out]; rfl, by rw [HC2.out]; exact ⟨G, HD.out, KK.out⟩⟩

end Go.Proofs.YtcahlmneancapaaGreatDoor.Clep

/- What Read, Used, Calls and Sync of a Disk do when called (walks over the translated program): for any Disk of fewer than 2^40 calls, any name of at most 2^46 bytes. -/
namespace Go.Proofs.YtcahlmneancapaaGreatDoor.Clep
open Go.RowKit Go.Maps
set_option linter.unusedVariables false
set_option maxRecDepth 10000

def readS (S : St) (s : ByteArray) : Nat × List Int :=
  if okName s = false then (10, [])
  else if S.dead then (50, [])
  else match fileAt S.files (lk S.names s) with
    | none => (11, [])
    | some f => (0, f.bs)
theorem own_none (w : World) (B : Nat) : Own w B (.slice none 0 0) [] := ⟨rfl, .inl ⟨rfl, rfl⟩⟩
theorem own_slice {w : World} {B : Nat} {v : Value} {zs : List Int} (h : Own w B v zs) : ∃ ao cap, v = .slice ao zs.length cap := by
  obtain ⟨_, ⟨rfl, hn⟩ | ⟨g, cap, cur, rfl, _⟩⟩ := h
  · exact ⟨none, 0, by rw [hn]⟩
  · exact ⟨_, _, rfl⟩

set_option maxHeartbeats 400000 in
theorem dread_any (R : Nat) (S : St) (G : Gh) (s : ByteArray) (w : World) (h : DiskIs w R S G) (hs : s.size ≤ 70368744177664) :
    Calls Tryz.prog 18 #[.pointer (some ⟨R, 0, none⟩), .string s] w fun e w' => ∃ ao cap, e = .returned (.tuple #[.slice ao (readS S s).2.length cap, .int .i64 (readS S s).1]) ∧ Own w' w.heap.size (.slice ao (readS S s).2.length cap) (readS S s).2 ∧ Below w.heap.size w w' := by
  have H := hide h
  have c4 := h.cells.1.2.2.2.2
  clear h
  go_enter Tryz.func18, Tryz.ntmps18
  go_wp2_with fail
  refine (isName_any s w hs).mono ?_
  rintro e w1 ⟨rfl, rfl⟩
  cases ho : okName s
  · have hr : readS S s = (10, []) := by unfold readS; rw [if_pos ho]
    have Hr := hide hr
    clear hr
    go_wp2
    go_ret2
    rw [Hr.out]
    exact ⟨none, 0, rfl, own_none _ _, Below.refl _ _⟩
  · cases hd : S.dead
    · rw [hd] at c4
      have hF := hide (find_disk R S G s w1 H.out hs)
      go_wp2_with fail
      refine hF.out.mono ?_
      rintro e w2 ⟨rfl, b2⟩
      have HD2 := hide (H.out.below b2)
      have HB2 := hide b2
      clear b2 hF c4
      cases hf : fileAt S.files (lk S.names s) with
      | none =>
        have hr : readS S s = (11, []) := by unfold readS; rw [if_neg (by rw [ho]; simp), if_neg (by rw [hd]; simp), hf]
        have Hr := hide hr
        clear hr
        simp only [ptrOf]
        go_wp2
        go_ret2
        rw [Hr.out]
        exact ⟨none, 0, rfl, own_none _ _, HB2.out⟩
      | some f =>
        have hr : readS S s = (0, f.bs) := by unfold readS; rw [if_neg (by rw [ho]; simp), if_neg (by rw [hd]; simp), hf]
        have Hr := hide hr
        clear hr
        simp only [ptrOf]
        have hmem := (fileAt_mem hf).1
        obtain ⟨fo, fc, hc, hO, hbk, hcm, hB⟩ := (HD2.out.files f hmem).cells
        have hfl := (HD2.out.files f hmem).len
        have cf := cell_of (i := 0) hc rfl
        simp at cf
        have HBB := hide hB
        clear hc hO hbk hB hcm
        go_wp2_with (first
          | (at_builtin; refine wpList_append_bytes rfl _ _ rfl w1.heap.size _ [] rfl (own_none _ _) fo f.bs.length fc f.bs rfl HBB.out (by simp; omega) HB2.out.size ?_; intro v4 w4 o4 g4)
          | fail)
        rw [List.nil_append] at o4
        obtain ⟨ao, cap, rfl⟩ := own_slice o4
        have HO4 := hide o4
        have HG4 := hide (HB2.out.trans g4)
        clear o4 g4
        go_wp2
        go_ret2
        rw [Hr.out]
        exact ⟨ao, cap, rfl, HO4.out, HG4.out⟩
    · have hr : readS S s = (50, []) := by unfold readS; rw [if_neg (by rw [ho]; simp), if_pos hd]
      have Hr := hide hr
      clear hr
      rw [hd] at c4
      go_wp2
      go_ret2
      rw [Hr.out]
      exact ⟨none, 0, rfl, own_none _ _, Below.refl _ _⟩
end Go.Proofs.YtcahlmneancapaaGreatDoor.Clep

/- What settle of a Disk does when called (a walk over the translated program): for any Disk of at most 2^40 calls. -/
namespace Go.Proofs.YtcahlmneancapaaGreatDoor.Clep
open Go.RowKit Go.Maps
set_option linter.unusedVariables false
set_option maxRecDepth 10000

def isNamed (D : DataW Unit) (left : Lit → Bool) (k : Int) : Bool := (entries D).any fun p => !left p.1 && numOf p.2 == k
def settleS (S : St) : St := { S with lasting := S.names, since := [], files := S.files.filter fun f => isNamed S.names (fun _ => false) f.num }
/-- What the new map of files holds, behind some of the names. -/
def Part (β : Nat → Nat) (D : DataW Unit) (left : Lit → Bool) (N : DataW Unit) : Prop := ∀ k : Int, Maps.has N (.int .i64 k) = isNamed D left k ∧ (Maps.has N (.int .i64 k) = true → ∀ z, N.atKey (.int .i64 k) z = i64L (β k.toNat))
theorem part_start (β : Nat → Nat) (D : DataW Unit) (hc : Canon D) : Part β D (Maps.has D) (.map []) := by
  obtain ⟨es, rfl, _, hk⟩ := hc
  intro k
  refine ⟨?_, fun h => by cases h⟩
  show false = _
  symm
  unfold isNamed
  rw [List.any_eq_false]
  intro p hp
  simp only [entries] at hp
  have : Maps.has (.map es) p.1 = true := by
    rw [Maps.has_eq, List.any_eq_true]
    exact ⟨p, hp, WideAt.sameKey_self (hk p hp)⟩
  rw [this]
  simp
theorem named_step {D : DataW Unit} {left : Lit → Bool} {kl : Lit} {c : Int} (hc : Canon D) (hK : WideAt.IsKeyLit kl) (hat : ∀ zd, D.atKey kl zd = i64L c) (k : Int) :
    isNamed D (fun z => left z && !z.sameKey kl) k = (isNamed D left k || c == k) := by
  obtain ⟨p0, h0, e1, e2⟩ := entry_of hc hat
  obtain ⟨es, rfl, hr, _⟩ := hc
  have hap := Maps.apart_of_rising hr
  unfold isNamed
  simp only [entries] at h0 ⊢
  rw [Bool.eq_iff_iff, Bool.or_eq_true, List.any_eq_true, List.any_eq_true]
  have hsame : WideAt.IsKeyLit kl → kl.sameKey kl = true := WideAt.sameKey_self
  constructor
  · rintro ⟨p, hp, h⟩
    rw [Bool.and_eq_true] at h
    by_cases hs : p.1.sameKey kl = true
    · right
      have e : p = p0 := by
        have e' : p.1 = p0.1 := (WideAt.sameKey_eq hs).trans e1.symm
        by_cases hpp : p = p0
        · exact hpp
        · exfalso
          have : ∀ l : List (Lit × DataW Unit), l.Pairwise (fun p q => p.1 ≠ q.1) → p ∈ l → p0 ∈ l → False := by
            intro l
            induction l with
            | nil => intro _ h; cases h
            | cons x r ih =>
              intro hl h1 h2
              rw [List.pairwise_cons] at hl
              rcases List.mem_cons.1 h1 with h1' | h1'
              · rcases List.mem_cons.1 h2 with h2' | h2'
                · exact hpp (h1'.trans h2'.symm)
                · exact hl.1 p0 h2' (by rw [← h1']; exact e')
              · rcases List.mem_cons.1 h2 with h2' | h2'
                · exact hl.1 p h1' (by rw [← h2']; exact e'.symm)
                · exact ih hl.2 h1' h2'
          exact this es hap hp h0
      rw [e, e2] at h
      exact h.2
    · left
      refine ⟨p, hp, ?_⟩
      rw [Bool.not_eq_true] at hs
      rw [Bool.and_eq_true]
      rw [hs] at h
      exact ⟨by simpa using h.1, h.2⟩
  · rintro (⟨p, hp, h⟩ | h)
    · refine ⟨p, hp, ?_⟩
      rw [Bool.and_eq_true] at h ⊢
      refine ⟨?_, h.2⟩
      have := h.1
      simp only [Bool.not_eq_true'] at this
      rw [this]
      rfl
    · refine ⟨p0, h0, ?_⟩
      rw [e1, hsame hK, e2]
      simpa [numOf, i64L] using h
theorem part_step {β : Nat → Nat} {D N : DataW Unit} {left : Lit → Bool} {kl : Lit} {f : Fl} (h : Part β D left N) (hN : IsMap N) (hc : Canon D) (hK : WideAt.IsKeyLit kl) (hat : ∀ zd, D.atKey kl zd = i64L f.num) :
    Part β D (fun z => left z && !z.sameKey kl) (N.put (.int .i64 f.num) (i64L (β f.num))) := by
  intro k
  rw [named_step hc hK hat]
  by_cases hk : (f.num : Int) = k
  · subst hk
    rw [Maps.has_put_same (k := .int .i64 _) hN trivial]
    refine ⟨by simp, fun _ z => ?_⟩
    rw [Maps.atKey_put_same (k := .int .i64 _) hN trivial]
    simp
  · have hne : Lit.int .i64 k ≠ .int .i64 (f.num : Int) := by intro e; injection e with _ e; exact hk e.symm
    rw [Maps.has_put_other hne]
    refine ⟨by rw [(h k).1]; simp [hk], fun hh z => ?_⟩
    rw [Maps.atKey_put_other hne]
    exact (h k).2 hh z
theorem part_end {β : Nat → Nat} {fs : List Fl} {D N : DataW Unit} {left : Lit → Bool} (h : Part β D left N) (hl : ∀ k, left k = false) (hr : fs.Pairwise fun f g => f.num < g.num) (hL : Leads fs D) : FilesD β (fs.filter fun f => isNamed D (fun _ => false) f.num) N := by
  have e : left = fun _ => false := funext hl
  subst e
  intro k
  have hf : fileAt (fs.filter fun f => isNamed D (fun _ => false) f.num) k = if isNamed D (fun _ => false) k then fileAt fs k else none := by
    unfold fileAt
    rw [List.find?_filter]
    have ep : (fun f : Fl => decide (isNamed D (fun _ => false) (f.num : Int) = true ∧ ((f.num : Int) == k) = true)) = fun f : Fl => isNamed D (fun _ => false) k && (f.num : Int) == k := by
      funext f
      by_cases e : (f.num : Int) = k
      · rw [e]; simp
      · have : ((f.num : Int) == k) = false := by simpa using e
        rw [this, Bool.and_false]; simp
    rw [ep]
    cases isNamed D (fun _ => false) k with
    | false => simp
    | true => simp
  rw [hf]
  cases hn : isNamed D (fun _ => false) k with
  | false =>
    have h1 := (h k).1
    rw [hn] at h1
    rw [if_neg (by simp)]
    exact ⟨Maps.atKey_of_not_has h1 _, h1⟩
  | true =>
    have h1 := (h k).1
    rw [hn] at h1
    rw [if_pos rfl]
    obtain ⟨p, hp, hpk⟩ := List.any_eq_true.1 hn
    obtain ⟨f, hfm, e⟩ := hL p hp
    have : k = f.num := by rw [e] at hpk; simpa [numOf, i64L] using Eq.symm (show (f.num : Int) = k by simpa [numOf, i64L] using hpk)
    subst this
    rw [fileAt_of hr hfm, h1, (h _).2 h1]
    exact ⟨by simp, rfl⟩

end Go.Proofs.YtcahlmneancapaaGreatDoor.Clep

/- What settle and SyncDir of a Disk do when called: the walks over the translated program. For any Disk of fewer than 2^40 calls. -/
namespace Go.Proofs.YtcahlmneancapaaGreatDoor.Clep
open Go.RowKit Go.Maps
set_option linter.unusedVariables false
set_option maxRecDepth 10000

theorem clone_any (b n : Nat) (D : DataW Unit) (w : World) (h : w.ownsMap Tryz.prog 9 (plainElem Tryz.prog 3) b n D) :
    Calls Tryz.prog 102 #[.map (some b)] w fun e w' => e = .returned (.map (some w.heap.size)) ∧ w'.ownsMap Tryz.prog 9 (plainElem Tryz.prog 3) w.heap.size n D ∧ Below w.heap.size w w' := by
  have c := AnyW.maps_Clone_owns Tryz.cloneA 9 (plainElem Tryz.prog 3) b n D w h
  change Calls Tryz.prog 102 _ _ _ at c
  refine c.mono ?_
  rintro e w' ⟨h1, h2, _, h4⟩
  exact ⟨h1, h2, h4⟩
theorem settle_ok {S : St} (h : Ok S) : Ok { S with lasting := S.names, since := [] } := by
  obtain ⟨a1, a2, a3, a4, a5, a6, a7, a8, a9, a10, a11⟩ := h
  exact ⟨a1, a2, a3, a3, fun c hc => (by cases hc), a6, by show Maps.size S.names + 0 ≤ _; omega, a8, a9, a10, a11⟩
theorem settle_ok2 {S : St} (h : Ok S) : Ok (settleS S) := by
  obtain ⟨a1, a2, a3, a4, a5, a6, a7, a8, a9, a10, a11⟩ := h
  have L : Leads (S.files.filter fun f => isNamed S.names (fun _ => false) f.num) S.names := fun p hp => by
    obtain ⟨f, hf, e⟩ := a3 p hp
    refine ⟨f, List.mem_filter.2 ⟨hf, ?_⟩, e⟩
    unfold isNamed
    rw [List.any_eq_true]
    exact ⟨p, hp, by rw [e]; simp [numOf, i64L]⟩
  exact ⟨a1.filter _, fun f hf => a2 f (List.mem_filter.1 hf).1, L, L, fun c hc => (by cases hc), a6, by show Maps.size S.names + 0 ≤ S.calls; omega, a8, a9, a10, a11⟩
/-- A Disk whose lasting names, and what was done since, are not looked at. -/
structure DiskMid (w : World) (R : Nat) (S : St) (G : Gh) : Prop where
  row : w.heap[R]? = some (.cells (dRow S G) 78 (0, 0))
  fm : ∃ D, w.ownsMap Tryz.prog 3 ptrElem G.bf (Maps.size D) D ∧ FilesD G.β S.files D ∧ Maps.size D ≤ S.calls
  nm : w.ownsMap Tryz.prog 9 (plainElem Tryz.prog 3) G.bn (Maps.size S.names) S.names
  files : ∀ f ∈ S.files, FileIs w G f
  tR : G.τ R = 1
  tf : G.τ G.bf = 2
  tn : G.τ G.bn = 3
  top : ∀ i, w.heap.size ≤ i → G.τ i = 0
  ok : Ok S
theorem DiskIs.mid {w : World} {R : Nat} {S : St} {G : Gh} (h : DiskIs w R S G) : DiskMid w R S G := ⟨h.row, h.fm, h.nm, h.files, h.tR, h.tf, h.tn, h.top, h.ok⟩
theorem DiskMid.lt {w : World} {R : Nat} {S : St} {G : Gh} (h : DiskMid w R S G) : R < w.heap.size := (Array.getElem?_eq_some_iff.1 h.row).1
theorem DiskMid.below {w w' : World} {R : Nat} {S : St} {G : Gh} (h : DiskMid w R S G) (hb : Below w.heap.size w w') : DiskMid w' R S G := by
  have T : Turn G.τ (fun _ => False) w w' := Turn.of_below hb _
  obtain ⟨D, f1, f2, f3⟩ := h.fm
  exact ⟨drow_keep T h.row id, ⟨D, map_keep T f1 id, f2, f3⟩, map_keep T h.nm id, fun f hf => file_keep T (h.files f hf) id id, h.tR, h.tf, h.tn, fun i hi => h.top i (Nat.le_trans hb.size hi), h.ok⟩
theorem DiskMid.cells {w : World} {R : Nat} {S : St} {G : Gh} (h : DiskMid w R S G) :
    w.cell? ⟨R, 7, none⟩ = some (.map (some G.bn)) ∧ w.cell? ⟨R, 8, none⟩ = some (.map (some G.bl)) ∧ w.cell? ⟨R, 9, none⟩ = some G.sv ∧ ∀ i, w.frozen? ⟨R, i, none⟩ = false := by
  refine ⟨?_, ?_, ?_, fun i => frozen_of_row w R i _ _ h.row⟩ <;> simp [World.cell?, h.row, dRow]
/-- The names have been copied, and what was done to them since is forgotten. -/
theorem lasting_set {R : Nat} {S : St} {G : Gh} {w w1 : World} (h : DiskMid w R S G) (o1 : w1.ownsMap Tryz.prog 9 (plainElem Tryz.prog 3) w.heap.size (Maps.size S.names) S.names) (b1 : Below w.heap.size w w1) :
    ∃ G', G'.bf = G.bf ∧ G'.bn = G.bn ∧ DiskIs ((w1.setCell ⟨R, 8, none⟩ (.map (some w.heap.size))).setCell ⟨R, 9, none⟩ (.slice none 0 0)) R { S with lasting := S.names, since := [] } G' ∧ Kept G G' w ((w1.setCell ⟨R, 8, none⟩ (.map (some w.heap.size))).setCell ⟨R, 9, none⟩ (.slice none 0 0)) := by
  have hR := h.lt
  have hl1 := o1.lt
  have r1 : w1.heap[R]? = some (.cells (dRow S G) 78 (0, 0)) := (b1.block R hR).trans h.row
  have r2 := heap_setCell_same w1 R 8 _ _ (.map (some w.heap.size)) r1
  have r3 := heap_setCell_same _ R 9 _ _ (.slice none 0 0) r2
  generalize hW : (w1.setCell ⟨R, 8, none⟩ (.map (some w.heap.size))).setCell ⟨R, 9, none⟩ (.slice none 0 0) = W at *
  have hoth : ∀ i, i ≠ R → W.heap[i]? = w1.heap[i]? := fun i hi => by
    rw [← hW, heap_setCell_other _ ⟨R, 9, none⟩ i _ hi, heap_setCell_other _ ⟨R, 8, none⟩ i _ hi]
  have hsz : W.heap.size = w1.heap.size := by rw [← hW]; simp
  have T : Turn G.τ (fun n => n = 1) w W := ⟨by rw [hsz]; exact b1.size, fun i hi ht => by
    rw [hoth i (fun e => ht (by rw [e]; exact h.tR))]
    exact b1.block i hi⟩
  have hne : R ≠ w.heap.size := by omega
  have ht : ∀ i, G.τ i ≠ 0 → (if i = w.heap.size then 4 else G.τ i) = G.τ i := fun i h0 => by
    rw [if_neg]
    rintro rfl
    exact h0 (h.top _ (Nat.le_refl _))
  obtain ⟨D, f1, f2, f3⟩ := h.fm
  refine ⟨{ G with bl := w.heap.size, sv := .slice none 0 0, τ := fun i => if i = w.heap.size then 4 else G.τ i }, rfl, rfl, ⟨?_, ⟨D, map_keep T f1 (by rw [h.tf]; omega), f2, f3⟩, map_keep T h.nm (by rw [h.tn]; omega), ?_, ⟨rfl, .inl ⟨rfl, rfl⟩⟩, ?_, ?_, ?_, ?_, if_pos rfl, fun g hg => (by cases hg), ?_, settle_ok h.ok⟩, ?_⟩
  · rw [r3]; rfl
  · obtain ⟨es, clock, hh, r⟩ := o1
    exact ⟨es, clock, by rw [hoth _ hne.symm]; exact hh, r⟩
  · intro f hf
    exact (file_keep T (h.files f hf) (by omega) (by omega)).retag rfl fun i hi => ht i (by omega)
  · exact (ht R (by rw [h.tR]; omega)).trans h.tR
  · exact (ht _ (by rw [h.tf]; omega)).trans h.tf
  · exact (ht _ (by rw [h.tn]; omega)).trans h.tn
  · intro i hi
    show (if i = w.heap.size then 4 else G.τ i) = 0
    rw [if_neg (by omega)]
    exact h.top i (by have := b1.size; omega)
  · refine ⟨by rw [← hW]; exact b1.os, by rw [← hW]; exact b1.tape, by rw [← hW]; exact b1.output, T.1, fun i hi h0 => T.2 i hi (by rw [h0]; omega), fun i hi h0 => ?_⟩
    show (if i = w.heap.size then 4 else G.τ i) = 0
    rw [if_neg (by omega)]
    exact h0
/-- The new map of files takes the old one's place. -/
theorem files_set {R : Nat} {S : St} {G : Gh} {w w1 : World} {N : DataW Unit} (h : DiskIs w R { S with lasting := S.names, since := [] } G) (o1 : w1.ownsMap Tryz.prog 3 ptrElem w.heap.size (Maps.size N) N) (hF : FilesD G.β (settleS S).files N) (hN : Maps.size N ≤ S.calls) (b1 : Below w.heap.size w w1) (hS : Ok S) :
    ∃ G', DiskIs (w1.setCell ⟨R, 6, none⟩ (.map (some w.heap.size))) R (settleS S) G' ∧ Kept G G' w (w1.setCell ⟨R, 6, none⟩ (.map (some w.heap.size))) := by
  have hR := h.lt
  have hl1 := o1.lt
  have r1 : w1.heap[R]? = _ := (b1.block R hR).trans h.row
  have r2 := heap_setCell_same w1 R 6 _ _ (.map (some w.heap.size)) r1
  generalize hW : w1.setCell ⟨R, 6, none⟩ (.map (some w.heap.size)) = W at *
  have hoth : ∀ i, i ≠ R → W.heap[i]? = w1.heap[i]? := fun i hi => by
    rw [← hW, heap_setCell_other _ ⟨R, 6, none⟩ i _ hi]
  have hsz : W.heap.size = w1.heap.size := by rw [← hW]; simp
  have T : Turn G.τ (fun n => n = 1) w W := ⟨by rw [hsz]; exact b1.size, fun i hi ht => by
    rw [hoth i (fun e => ht (by rw [e]; exact h.tR))]
    exact b1.block i hi⟩
  have hne : R ≠ w.heap.size := by omega
  have ht : ∀ i, G.τ i ≠ 0 → (if i = w.heap.size then 2 else G.τ i) = G.τ i := fun i h0 => by
    rw [if_neg]
    rintro rfl
    exact h0 (h.top _ (Nat.le_refl _))
  refine ⟨{ G with bf := w.heap.size, τ := fun i => if i = w.heap.size then 2 else G.τ i }, ⟨?_, ⟨N, ?_, hF, hN⟩, map_keep T h.nm (by rw [h.tn]; omega), map_keep T h.lm (by rw [h.tl]; omega), owns_keep T h.sc (fun g hg => by rw [h.ts g hg]; omega), ?_, ?_, if_pos rfl, ?_, ?_, ?_, ?_, settle_ok2 hS⟩, ?_⟩
  · rw [r2]; rfl
  · obtain ⟨es, clock, hh, r⟩ := o1
    exact ⟨es, clock, by rw [hoth _ hne.symm]; exact hh, r⟩
  · intro f hf
    exact (file_keep T (h.files f (List.mem_filter.1 hf).1) (by omega) (by omega)).retag rfl fun i hi => ht i (by omega)
  · exact (ht R (by rw [h.tR]; omega)).trans h.tR
  · exact (ht _ (by rw [h.tn]; omega)).trans h.tn
  · exact (ht _ (by rw [h.tl]; omega)).trans h.tl
  · exact fun g hg => (ht g (by rw [h.ts g hg]; omega)).trans (h.ts g hg)
  · intro i hi
    show (if i = w.heap.size then 2 else G.τ i) = 0
    rw [if_neg (by omega)]
    exact h.top i (by have := b1.size; omega)
  · refine ⟨by rw [← hW]; exact b1.os, by rw [← hW]; exact b1.tape, by rw [← hW]; exact b1.output, T.1, fun i hi h0 => T.2 i hi (by rw [h0]; omega), fun i hi h0 => ?_⟩
    show (if i = w.heap.size then 2 else G.τ i) = 0
    rw [if_neg (by omega)]
    exact h0

set_option maxHeartbeats 400000 in
set_option maxRecDepth 4000 in
theorem settle_any (R : Nat) (S : St) (G : Gh) (w : World) (h : DiskMid w R S G) (hm : S.calls ≤ 1099511627776) :
    Calls Tryz.prog 64 #[.pointer (some ⟨R, 0, none⟩)] w fun e w' => e = .returned (.tuple #[]) ∧ ∃ G', DiskIs w' R (settleS S) G' ∧ Kept G G' w w' := by
  have H := hide h
  have c7 := h.cells.1
  have hC := hide (clone_any G.bn _ S.names w h.nm)
  have hcn := hide (h.nm.canon lawS)
  have hmm := @run_makeMap Tryz.prog
  clear h
  go_enter Tryz.func64, Tryz.ntmps64
  go_wp2_with fail
  refine hC.out.mono ?_
  rintro e w1 ⟨rfl, o1, b1⟩
  obtain ⟨G1, e1, e2, D1, K1⟩ := lasting_set H.out o1 b1
  have hd1 := H.out.below b1
  have c8 := hd1.cells.2.1
  have c9 := hd1.cells.2.2.1
  have f8 := hd1.cells.2.2.2 8
  have f9 := hd1.cells.2.2.2 9
  have k9 : (w1.setCell ⟨R, 8, none⟩ (.map (some w.heap.size))).cell? ⟨R, 9, none⟩ = some G.sv := by
    rw [World.cell?_setCell_other (h := by simp)]; exact c9
  have HD1 := hide D1
  have HK1 := hide K1
  have x7 := D1.cells.2.1.2.2.1
  have hsz : ((w1.setCell ⟨R, 8, none⟩ (.map (some w.heap.size))).setCell ⟨R, 9, none⟩ (.slice none 0 0)).heap.size = w1.heap.size := by simp
  have y7 : (((w1.setCell ⟨R, 8, none⟩ (.map (some w.heap.size))).setCell ⟨R, 9, none⟩ (.slice none 0 0)).alloc (.map #[] 0)).cell? ⟨R, 7, none⟩ = some (.map (some G.bn)) := by
    rw [World.cell?_of_block (Below.heap_alloc _ _ R D1.lt), ← e2]; exact x7
  have hown := D1.nm.alloc (.map #[] 0)
  rw [e2] at hown
  have HOWN := hide hown
  have E1 := hide e1
  have E2 := hide e2
  have hbase := hide (World.ownsMap_made ((w1.setCell ⟨R, 8, none⟩ (.map (some w.heap.size))).setCell ⟨R, 9, none⟩ (.slice none 0 0)) Tryz.prog 3 ptrElem)
  have HS := hide hsz
  clear D1 K1 hd1 o1 b1 hC c7 hsz x7 hown e1 e2
  go_wp2_with (first
    | (at_range; refine wpList_range_own _ rfl _ 70 rfl 9 3 lawS Tryz.underlying70 _ G.bn _ _ rfl HOWN.out ?_; intro w0 hrg0 hg0 hs0)
    | go_in)
  have HRG := hide hrg0
  have HG0 := hide hg0
  clear hrg0 hg0 hs0 HOWN y7 k9 c8 c9 f8 f9
  generalize (w1.setCell ⟨R, 8, none⟩ (.map (some w.heap.size))).setCell ⟨R, 9, none⟩ (.slice none 0 0) = w2 at *
  simp only [World.size_alloc] at HRG
  rw [HS.out] at HRG hbase
  generalize w1.heap.size = B at *
  have hbB : G.bn < B := by have h1 := H.out.nm.lt; have h2 := HK1.out.size; have h3 := HS.out; omega
  have HB0 := hide (show Below B w2 w0 from ((Below.refl B w2).alloc (by rw [HS.out]; exact Nat.le_refl _) (.map #[] 0)).grown HG0.out (by simp [HS.out]) (fun k hk => by cases hk))
  have HN0 := hide (tight (hbase.out.kept HG0.out (by simp)))
  clear hbase HG0 hmm
  go_frame
  rw [show (w2.alloc (.map #[] 0)).heap.size = B + 1 from by simp [HS.out]]
  go_loopw [4] (fun _ wr => ∃ (left : Lit → Bool) (cnt : Nat) (N : DataW Unit), Hid (wr.ranges Tryz.prog 9 (plainElem Tryz.prog 3) G.bn (B + 1) (Maps.size S.names) S.names left cnt) ∧ Hid (wr.ownsMap Tryz.prog 3 ptrElem B (Maps.size N) N) ∧ Hid (Part G1.β S.names left N) ∧
    Hid (Maps.size N + cnt ≤ Maps.size S.names) ∧ Hid (Below B w2 wr)) (fun _ wr => wr.rangeLeft G.bn (B + 1))
  case atStart => exact ⟨_, _, _, HRG, HN0, hide (part_start _ _ hcn.out), hide (by show 0 + _ ≤ _; omega), HB0⟩
  case round =>
    obtain ⟨left, cnt, N, hrg, hN, hP, hz, hbl⟩ := hrel
    go_wp2_with (first
      | (at_next; refine next_si _ rfl _ rfl G.bn (B + 1) _ _ _ _ rfl hrg.out ?_ ?_)
      | fail)
    · intro _ hl0
      have hb2 : Below w2.heap.size w2 wr := by rw [HS.out]; exact hbl.out
      have hN2 := hN.out
      rw [← HS.out] at hN2
      have FS := hide (files_set HD1.out hN2 (part_end hP.out hl0 H.out.ok.rise H.out.ok.named) (by have h1 := hz.out; have h2 := H.out.ok.szn; omega) hb2 H.out.ok)
      have D3 := HD1.out.below hb2
      have c6 := D3.cells.2.1.2.1
      have f6 := D3.cells.2.2 6
      rw [HS.out] at FS
      clear hb2 hN2 D3
      go_wp2
      go_end0
      obtain ⟨G', D', K'⟩ := FS.out
      exact ⟨rfl, G', D', HK1.out.trans K'⟩
    · intro x c w3 cnt1 hwc hlk hat hrg1 hlt hg1 hs1 hen
      obtain ⟨f, hf⟩ := Ok.leads H.out.ok.rise H.out.ok.named hcn.out hat
      obtain rfl : c = f.num := (fileAt_mem hf).2
      have B1 := hbl.out.grown hg1 (by have h1 := hbl.out.size; have h3 := HS.out; omega) (fun k hk => by cases hk; omega)
      have D3 := HD1.out.below (by rw [HS.out]; exact B1)
      have c6 := D3.cells.2.1.2.1
      obtain ⟨DD, f1, f2, f3⟩ := D3.fm
      have hlook := look_file G1 rfl f1 f2 hwc
      rw [show fileAt ({ S with lasting := S.names, since := [] } : St).files (f.num : Int) = some f from hf] at hlook
      simp only [ptrOf] at hlook
      have N3 := hide (hN.out.kept hg1 (by simp))
      have HP1 := hide (part_step hP.out hN.out.isMap hcn.out (kl := key x) trivial hat)
      have hzp := Maps.size_put (hN.out.tidy lawI) (k := .int .i64 (f.num : Int)) (i64L (G1.β f.num))
      have HZ := hide (show Maps.size (N.put (.int .i64 (f.num : Int)) (i64L (G1.β f.num))) + cnt1 ≤ Maps.size S.names by have h1 := hz.out; split at hzp <;> omega)
      have hzm : Maps.size N < 9223372036854775807 := by have h1 := hz.out; have h2 := H.out.ok.szn; omega
      have HR1 := hide hrg1
      have HB1 := hide B1
      have HLT := hide hlt
      have hsz3 : B ≤ w3.heap.size := by have h1 := B1.size; have h3 := HS.out; omega
      have kk := keyOf_int_mk Tryz.underlying3 hwc
      have KKK := hide kk
      clear B1 D3 f1 f2 f3 hrg1 hat hlk hlt hs1 hzp hg1 hf kk
      go_wp2_with (first
        | (at_mapUpdate; refine wpList_mapUpdate_own _ rfl _ _ _ 68 rfl 3 106 lawI Tryz.underlying68 _ B _ _ rfl N3.out hzm _ _ _ rfl rfl KKK.out (i64L (G1.β f.num)) [] (ptrElem_mk _) ?_; intro w4 o4 g4)
        | go_in)
      go_frame
      go_roundw
      case rel => exact ⟨_, cnt1, _, hide (HR1.out.kept g4 (by simp; omega) (by simp)), hide (tight o4), HP1, HZ, hide (HB1.out.grown g4 hsz3 (fun k hk => by cases hk; exact Nat.le_refl _))⟩
      case measure =>
        rw [(HR1.out.kept g4 (by simp; omega) (by simp)).left_eq, hrg.out.left_eq]
        exact HLT.out

end Go.Proofs.YtcahlmneancapaaGreatDoor.Clep
