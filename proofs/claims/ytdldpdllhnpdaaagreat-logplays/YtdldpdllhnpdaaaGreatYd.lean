/- What Append of a Disk does when called (a walk over the translated program): for any Disk of fewer than 2^40 calls, any name and any bytes of at most 2^46. -/
import Derived.Test.YtdldpdllhnpdaaaGreatYc
namespace Go.Proofs.YtdldpdllhnpdaaaGreat.Clep
open Go.RowKit Go.Maps
set_option linter.unusedVariables false
set_option maxRecDepth 10000

def updF (fs : List Fl) (n : Nat) (g : Fl → Fl) : List Fl := fs.map fun f => if f.num = n then g f else f
def growF (zs : List Int) (f : Fl) : Fl := { f with bs := f.bs ++ zs }
def appendS (S : St) (s : ByteArray) (zs : List Int) : Nat × St :=
  if okName s = false then (10, S)
  else if (beginS S).1 ≠ 0 then beginS S
  else match fileAt (beginS S).2.files (lk (beginS S).2.names s) with
    | none => (11, (beginS S).2)
    | some f => if 250000 < f.bs.length + zs.length then (2, (beginS S).2)
      else if (beginS S).2.q < usedS (beginS S).2 + zs.length then (15, (beginS S).2)
      else (0, { (beginS S).2 with files := updF (beginS S).2.files f.num (growF zs) })
theorem Bs.kept {G G' : Gh} {w w' : World} {ao : Option Addr} {len cap : Nat} {zs : List Int} (h : Bs w ao len cap zs) (hk : Kept G G' w w') (ht : ∀ b off, ao = some ⟨b, off, none⟩ → G.τ b = 0) : Bs w' ao len cap zs := by
  refine ⟨h.1, h.2.1, h.2.2.1, fun h0 => ?_⟩
  obtain ⟨b, off, ho, hc⟩ := h.2.2.2 h0
  refine ⟨b, off, ho, fun i hi => ?_⟩
  rw [World.cell?_of_block (w := w) (hk.block b (World.block_lt_of_cell? w _ (hc i hi)) (ht b off ho))]
  exact hc i hi
theorem updF_nums (fs : List Fl) (n : Nat) (g : Fl → Fl) (hg : ∀ f, (g f).num = f.num) : (updF fs n g).map (·.num) = fs.map (·.num) := by
  unfold updF
  rw [List.map_map]
  refine List.map_congr_left fun f _ => ?_
  show (if f.num = n then g f else f).num = f.num
  split
  · exact hg f
  · rfl
theorem updF_mem {fs : List Fl} {n : Nat} {g : Fl → Fl} {f : Fl} (h : f ∈ updF fs n g) : ∃ f0 ∈ fs, f = if f0.num = n then g f0 else f0 := by
  obtain ⟨f0, h0, e⟩ := List.mem_map.1 h
  exact ⟨f0, h0, e.symm⟩
theorem updF_at (fs : List Fl) (n : Nat) (g : Fl → Fl) (hg : ∀ f, (g f).num = f.num) (k : Int) : fileAt (updF fs n g) k = (fileAt fs k).map fun f => if f.num = n then g f else f := by
  unfold fileAt updF
  rw [List.find?_map]
  congr 2
  funext f
  show (((if f.num = n then g f else f).num : Int) == k) = ((f.num : Int) == k)
  split
  · rw [hg]
  · rfl
theorem leads_upd {fs : List Fl} {D : DataW Unit} {n : Nat} {g : Fl → Fl} (hg : ∀ f, (g f).num = f.num) (h : Leads fs D) : Leads (updF fs n g) D := by
  intro p hp
  obtain ⟨f, hf, e⟩ := h p hp
  refine ⟨_, List.mem_map.2 ⟨f, hf, rfl⟩, ?_⟩
  rw [e]
  show _ = i64L (if f.num = n then g f else f).num
  split
  · rw [hg]
  · rfl
theorem ok_upd {S : St} {n : Nat} {g : Fl → Fl} (hg : ∀ f, (g f).num = f.num) (h : Ok S) : Ok { S with files := updF S.files n g } := by
  obtain ⟨a1, a2, a3, a4, a5, a6, a7, a8, a9, a10, a11⟩ := h
  refine ⟨?_, fun f hf => ?_, leads_upd hg a3, leads_upd hg a4, fun c hc => ?_, a6, a7, a8, a9, a10, a11⟩
  · show (updF S.files n g).Pairwise _
    have : (S.files.map (·.num)).Pairwise (fun a b => a < b) := List.pairwise_map.2 a1
    rw [← updF_nums S.files n g hg] at this
    exact List.pairwise_map.1 this
  · obtain ⟨f0, h0, rfl⟩ := updF_mem hf
    have := a2 f0 h0
    show 1 ≤ (if f0.num = n then g f0 else f0).num ∧ (if f0.num = n then g f0 else f0).num ≤ S.made
    split
    · rw [hg]; exact this
    · exact this
  · obtain ⟨b1, b2, b3, b4, b5⟩ := a5 c hc
    refine ⟨b1, b2, b3, fun h0 => ?_, b5⟩
    obtain ⟨f, hf, e⟩ := b4 h0
    refine ⟨_, List.mem_map.2 ⟨f, hf, rfl⟩, ?_⟩
    rw [e]
    show _ = (if f.num = n then g f else f).num
    split
    · rw [hg]
    · rfl
theorem filesD_upd {β : Nat → Nat} {fs : List Fl} {D : DataW Unit} {n : Nat} {g : Fl → Fl} (hg : ∀ f, (g f).num = f.num) (h : FilesD β fs D) : FilesD β (updF fs n g) D := by
  intro k
  rw [(h k).1, (h k).2, updF_at fs n g hg]
  cases fileAt fs k with
  | none => exact ⟨rfl, rfl⟩
  | some f =>
    refine ⟨?_, rfl⟩
    show i64L (β f.num) = i64L (β (if f.num = n then g f else f).num)
    split
    · rw [hg]
    · rfl
theorem Turn.mono {τ : Nat → Nat} {t t' : Nat → Prop} {w w' : World} (h : Turn τ t w w') (ht : ∀ n, t n → t' n) : Turn τ t' w w' := ⟨h.1, fun i hi hn => h.2 i hi (fun e => hn (ht _ e))⟩
/-- A file of a Disk has turned, and nothing else. -/
theorem file_turn {R : Nat} {S : St} {G G' : Gh} {w w' : World} {f : Fl} {g : Fl → Fl} (hg : ∀ f, (g f).num = f.num) (h : DiskIs w R S G) (hf : f ∈ S.files) (T : Turn G.τ (fun n => n = 6 ∨ n = 6 + 2 * f.num ∨ n = 7 + 2 * f.num) w w')
    (hos : w'.os = w.os ∧ w'.tape = w.tape ∧ w'.output = w.output) (e1 : G' = { G with τ := G'.τ }) (ht : ∀ i, G'.τ i ≠ G.τ i → w.heap.size ≤ i ∧ i < w'.heap.size ∧ G'.τ i = 7 + 2 * f.num) (F : FileIs w' G' (g f)) :
    DiskIs w' R { S with files := updF S.files f.num g } G' ∧ Kept G G' w w' := by
  obtain ⟨D, f1, f2, f3⟩ := h.fm
  have b1 : G'.bf = G.bf := by rw [e1]
  have b2 : G'.bn = G.bn := by rw [e1]
  have b3 : G'.bl = G.bl := by rw [e1]
  have b4 : G'.sv = G.sv := by rw [e1]
  have b5 : G'.β = G.β := by rw [e1]
  have hn : ∀ i, G.τ i ≠ 0 → G'.τ i = G.τ i := fun i h0 => by
    by_cases e : G'.τ i = G.τ i
    · exact e
    · exact absurd (h.top i (ht i e).1) h0
  refine ⟨⟨?_, ⟨D, by rw [b1]; exact map_keep T f1 (by rw [h.tf]; omega), by rw [b5]; exact filesD_upd hg f2, f3⟩, by rw [b2]; exact map_keep T h.nm (by rw [h.tn]; omega), by rw [b3]; exact map_keep T h.lm (by rw [h.tl]; omega),
    by rw [b4]; exact owns_keep T h.sc (fun g hg => by rw [h.ts g hg]; omega), fun f' hf' => ?_, ?_, ?_, ?_, ?_, ?_, ?_, ok_upd hg h.ok⟩, ?_⟩
  · have := drow_keep T h.row (by rw [h.tR]; omega)
    rw [this]
    simp only [dRow, b1, b2, b3, b4]
  · obtain ⟨f0, h0, rfl⟩ := updF_mem hf'
    by_cases e : f0.num = f.num
    · rw [if_pos e]
      have : f0 = f := by
        have q1 := fileAt_of h.ok.rise h0
        have q2 := fileAt_of h.ok.rise hf
        rw [e, q2] at q1
        exact (Option.some.inj q1).symm
      rw [this]
      exact F
    · rw [if_neg e]
      have hp := (h.ok.nums f0 h0).1
      exact (file_keep T (h.files f0 h0) (by omega) (by omega)).retag (by rw [b5]) fun i hi => hn i (by omega)
  · rw [hn R (by rw [h.tR]; omega)]; exact h.tR
  · rw [b1, hn _ (by rw [h.tf]; omega)]; exact h.tf
  · rw [b2, hn _ (by rw [h.tn]; omega)]; exact h.tn
  · rw [b3, hn _ (by rw [h.tl]; omega)]; exact h.tl
  · intro g' hg'
    rw [b4] at hg'
    rw [hn _ (by rw [h.ts g' hg']; omega)]
    exact h.ts g' hg'
  · intro i hi
    by_cases e : G'.τ i = G.τ i
    · rw [e]; exact h.top i (Nat.le_trans T.1 hi)
    · have := (ht i e).2.1; omega
  · refine ⟨hos.1, hos.2.1, hos.2.2, T.1, fun i hi h0 => T.2 i hi (by rw [h0]; omega), fun i hi h0 => ?_⟩
    by_cases e : G'.τ i = G.τ i
    · rw [e]; exact h0
    · have := (ht i e).1; omega

end Go.Proofs.YtdldpdllhnpdaaaGreat.Clep

/- What Append of a Disk does when called: the walk over the translated program. For any Disk of fewer than 2^40 calls, any name and any bytes of at most 2^46 that are none of the Disk's own. -/
namespace Go.Proofs.YtdldpdllhnpdaaaGreat.Clep
open Go.RowKit Go.Maps
set_option linter.unusedVariables false
set_option maxRecDepth 10000

/-- An append of bytes to a row that is owned: where the new row lies. -/
theorem wpList_append_at {w : World} {ops : Array Oper} {rest : List Oper} {o : Oper} {a : Act} {Q : Exit → Act → World → Prop} (hgd : o.guard = none) (s x : Operand)
    (ho : o.op = .call { callee := .builtin .append, args := #[s, x], argTypes := #[40, 40] })
    (v : Value) (xs : List Int) (hs : a.eval s = v) (hown : Own w 0 v xs) (ao : Option Addr) (len cap : Nat) (ys : List Int) (hx : a.eval x = .slice ao len cap) (hb : Bs w ao len cap ys)
    (hlen : xs.length + len ≤ 70368744177664)
    (h : ∀ ao' n' cap' w', Own w' 0 (.slice ao' n' cap') (xs ++ ys) → w.grownBy w' v.ownBlock → ((Value.slice ao' n' cap').ownBlock = v.ownBlock ∨ (Value.slice ao' n' cap').ownBlock = some w.heap.size) → wpList Tryz.prog ops Q rest (a.put o.dst (.slice ao' n' cap')) w') : wpList Tryz.prog ops Q (o :: rest) a w := by
  have lit : ∀ {w' : World} {v' : Value} {zs : List Int}, Own w' 0 v' zs → ∃ ao' n' cap', v' = .slice ao' n' cap' := by
    rintro w' v' zs ⟨_, ⟨rfl, _⟩ | ⟨g, cap, cur, rfl, _⟩⟩
    · exact ⟨_, _, _, rfl⟩
    · exact ⟨_, _, _, rfl⟩
  obtain ⟨i0, hi, hz0, hz1, hz2⟩ := info_parts info5
  cases ao with
  | none =>
    obtain ⟨rfl, rfl⟩ := hb.2.1.2 rfl
    have hy : ys = [] := List.eq_nil_of_length_eq_zero hb.1
    subst hy
    obtain ⟨ao', n', cap', rfl⟩ := lit hown
    exact wpList_append_own_none hgd s x 40 ho 0 5 i0 1 Tryz.underlying40 hi _ xs.length (bv xs) hs hown hx (h ao' n' cap' w (by rwa [List.append_nil]) ⟨rfl, rfl, rfl, Nat.le_refl _, fun _ _ _ => rfl⟩ (.inl rfl))
  | some ad =>
    refine wpList_append_own_at _ hgd s x 40 ho 0 5 i0 (.int .u8 0) 1 1 Tryz.underlying40 hi hz0 hz1 hz2 rfl (by decide) v xs.length (bv xs) hs hown ad len cap (bv ys) hx (by rw [bv_len, hb.1]; omega) (bs_cells hb ad rfl) (bv_one ys)
      (by unfold maxLen; omega) (by omega) (Nat.zero_le _) ?_
    intro v' w' h1 h2 _ h4
    have hO : Own w' 0 v' (xs ++ ys) := by
      unfold Own
      rw [List.length_append, hb.1, show bv (xs ++ ys) = bv xs ++ bv ys from by simp [bv]]
      exact h1
    obtain ⟨ao', n', cap', rfl⟩ := lit hO
    exact h ao' n' cap' w' hO h2 h4
theorem grow_file {R : Nat} {S : St} {G : Gh} {w w1 : World} {f : Fl} {ao : Option Addr} {cap : Nat} {zs : List Int} {v' : Value} (h : DiskIs w R S G) (hf : f ∈ S.files) (hl : f.bs.length + zs.length ≤ 250000) (hz : ∀ z ∈ zs, 0 ≤ z ∧ z < 256)
    (hc : w.heap[G.β f.num]? = some (.cells #[.slice ao f.bs.length cap, .int .i64 f.lasts] 89 (0, 0))) (hbk : ∀ g, (Value.slice ao f.bs.length cap).ownBlock = some g → G.τ g = 7 + 2 * f.num)
    (o1 : Own w1 0 v' (f.bs ++ zs)) (g1 : w.grownBy w1 (Value.slice ao f.bs.length cap).ownBlock) (l1 : v'.ownBlock = (Value.slice ao f.bs.length cap).ownBlock ∨ v'.ownBlock = some w.heap.size) :
    ∃ G', DiskIs (w1.setCell ⟨G.β f.num, 0, none⟩ v') R { S with files := updF S.files f.num (growF zs) } G' ∧ Kept G G' w (w1.setCell ⟨G.β f.num, 0, none⟩ v') := by
  have F := h.files f hf
  have hβ : G.β f.num < w.heap.size := (Array.getElem?_eq_some_iff.1 hc).1
  have hne : ∀ i, G.τ i ≠ 7 + 2 * f.num → some i ≠ (Value.slice ao f.bs.length cap).ownBlock := fun i hi e => hi (hbk i e.symm)
  have hc1 : w1.heap[G.β f.num]? = some (.cells #[.slice ao f.bs.length cap, .int .i64 f.lasts] 89 (0, 0)) := by
    rw [g1.block _ hβ (hne _ (by rw [F.tag]; omega))]; exact hc
  have T : Turn G.τ (fun n => n = 6 + 2 * f.num ∨ n = 7 + 2 * f.num) w (w1.setCell ⟨G.β f.num, 0, none⟩ v') := ⟨by simpa using g1.size, fun i hi ht => by
    rw [heap_setCell_other w1 ⟨G.β f.num, 0, none⟩ i _ (fun e => ht (.inl (by rw [show i = G.β f.num from e]; exact F.tag)))]
    exact g1.block i hi (hne i (fun e => ht (.inr e)))⟩
  have hvlt : ∀ g, v'.ownBlock = some g → g < w1.heap.size := fun g hg => (World.ownsRow.lt o1 g hg).2
  have hvt : ∀ g, v'.ownBlock = some g → G.τ g = 7 + 2 * f.num ∨ g = w.heap.size := fun g hg => by
    rcases l1 with e | e
    · rw [e] at hg; exact .inl (hbk g hg)
    · rw [e] at hg; exact .inr (Option.some.inj hg).symm
  have hne2 : ∀ g, v'.ownBlock = some g → g ≠ G.β f.num := fun g hg e => by
    rcases hvt g hg with e' | e'
    · rw [e, F.tag] at e'; omega
    · omega
  let τ' : Nat → Nat := fun i => if v'.ownBlock = some i then 7 + 2 * f.num else G.τ i
  have := file_turn (S := S) (G := G) (G' := { G with τ := τ' }) (w' := w1.setCell ⟨G.β f.num, 0, none⟩ v') (f := f) (g := growF zs) (fun f => rfl) h hf (T.mono fun n hn => .inr hn) ⟨g1.os, g1.tape, g1.output⟩ rfl ?_ ?_
  · exact ⟨_, this⟩
  · intro i hi
    show w.heap.size ≤ i ∧ i < (w1.setCell ⟨G.β f.num, 0, none⟩ v').heap.size ∧ τ' i = _
    have hi' : v'.ownBlock = some i := by
      by_cases e : v'.ownBlock = some i
      · exact e
      · exact absurd (show τ' i = G.τ i from if_neg e) hi
    have hi2 : τ' i = 7 + 2 * f.num := if_pos hi'
    rcases hvt i hi' with e | e
    · exact absurd (hi2.trans e.symm) hi
    · exact ⟨by omega, by simpa using hvlt i hi', hi2⟩
  · refine ⟨⟨v', ?_, ?_, fun g hg => if_pos hg⟩, ?_, ?_, ?_, ?_⟩
    · show (w1.setCell ⟨G.β f.num, 0, none⟩ v').heap[G.β f.num]? = _
      rw [heap_setCell_same w1 _ 0 _ _ _ hc1]
      rfl
    · exact owns_keep (τ := id) (t := fun n => n = G.β f.num) ⟨by simp, fun i _ hi => heap_setCell_other w1 ⟨G.β f.num, 0, none⟩ i _ hi⟩ o1 (fun g hg => hne2 g hg)
    · show (if v'.ownBlock = some (G.β f.num) then 7 + 2 * f.num else G.τ (G.β f.num)) = 6 + 2 * f.num
      rw [if_neg (fun e => hne2 _ e rfl)]
      exact F.tag
    · intro z hz'
      rcases List.mem_append.1 hz' with h' | h'
      · exact F.rng z h'
      · exact hz z h'
    · show (f.bs ++ zs).length ≤ 250000
      rw [List.length_append]; exact hl
    · show f.lasts ≤ (f.bs ++ zs).length
      rw [List.length_append]; have := F.lst; omega

theorem q_drew {w2 W : World} {p : Addr} {v : Value} (h : Below w2.heap.size w2 W ∧ W.cell? p = some v) : Below w2.heap.size w2 W.drew ∧ W.drew.cell? p = some v := ⟨h.1.drew, h.2⟩
theorem q_first {w2 : World} {p : Addr} {v : Value} (h : w2.cell? p = some v) : Below w2.heap.size w2 w2.drew ∧ w2.drew.cell? p = some v := ⟨(Below.refl _ _).drew, h⟩
theorem q_step {w2 W W' : World} {p : Addr} {v : Value} (h : Below w2.heap.size w2 W ∧ W.cell? p = some v) (hb : Below W.heap.size W W') : Below w2.heap.size w2 W' ∧ W'.cell? p = some v :=
  ⟨h.1.trans (hb.mono h.1.size), by rw [hb.cell (World.block_lt_of_cell? W p h.2)]; exact h.2⟩
set_option maxHeartbeats 800000 in
set_option maxRecDepth 4000 in
theorem append_any (R : Nat) (S : St) (G : Gh) (s : ByteArray) (ao : Option Addr) (len cap : Nat) (zs : List Int) (w : World) (h : DiskIs w R S G) (hm : S.calls < 1099511627776) (hs : s.size ≤ 70368744177664)
    (hb : Bs w ao len cap zs) (hl : len ≤ 70368744177664) (ht : ∀ b off, ao = some ⟨b, off, none⟩ → G.τ b = 0 ∧ b < w.heap.size) :
    Calls Tryz.prog 28 #[.pointer (some ⟨R, 0, none⟩), .string s, .slice ao len cap] w fun e w' => e = .returned (.int .i64 (appendS S s zs).1) ∧ ∃ G', DiskIs w' R (appendS S s zs).2 G' ∧ Kept G G' w w' := by
  have H := hide h
  have BA := (Below.refl w.heap.size w).alloc (Nat.le_refl _) (.cells #[.string s] 9)
  have BG := hide (begin_any R S G (some ⟨w.heap.size, 0, none⟩) [s] _ (h.below BA) (by omega) (by simp) (txts_one w s) (by simpa using hs))
  have HA := hide BA
  have HB := hide hb
  have hlz := hide hb.1
  have HT := hide ht
  clear h BA hb ht
  go_enter Tryz.func28, Tryz.ntmps28
  go_wp2_with fail
  refine BG.out.mono ?_
  clear BG
  generalize w.alloc (.cells #[.string s] 9) = wA at *
  rintro e w1 (⟨hno, rfl, rfl⟩ | ⟨hyes, rfl, D1, K1⟩)
  · have hc : appendS S s zs = (10, S) := by unfold appendS; rw [if_pos (by simpa using hno)]
    have HC := hide hc
    clear hc
    go_wp2
    go_ret
    exact ⟨by rw [HC.out]; rfl, by rw [HC.out]; exact ⟨G, H.out.below HA.out, Kept.of_below HA.out⟩⟩
  · have hk := begin_keeps S
    have hy : okName s = true := by simpa using hyes
    obtain ⟨e1, S1, hb⟩ : ∃ e1 S1, beginS S = (e1, S1) := ⟨_, _, rfl⟩
    have hc0 : appendS S s zs = if e1 ≠ 0 then (e1, S1) else match fileAt S1.files (lk S1.names s) with | none => (11, S1) | some f => if 250000 < f.bs.length + zs.length then (2, S1) else if S1.q < usedS S1 + zs.length then (15, S1) else (0, { S1 with files := updF S1.files f.num (growF zs) }) := by
      unfold appendS; rw [if_neg (by rw [hy]; simp), hb]; try rfl
    have HC := hide hc0
    have KK := hide ((Kept.of_below (G := G) HA.out).trans K1)
    rw [hb] at D1 hk ⊢
    have HD := hide D1
    have HK := hide hk
    clear hc0 K1 D1 hk hyes hb
    simp only at HD HK ⊢
    by_cases he : e1 = 0
    · subst he
      have hF := hide (find_disk R S1 G s w1 HD.out hs)
      go_wp2_with fail
      refine hF.out.mono ?_
      rintro e w2 ⟨rfl, b2⟩
      have HD2 := hide (HD.out.below b2)
      have KK2 := hide (KK.out.trans (Kept.of_below b2))
      clear b2 hF KK HD
      cases hf : fileAt S1.files (lk S1.names s) with
      | none =>
        have HC2 := hide (show appendS S s zs = (11, S1) by rw [HC.out, hf]; rfl)
        simp only [ptrOf]
        go_wp2
        go_ret
        exact ⟨by rw [HC2.out]; rfl, by rw [HC2.out]; exact ⟨G, HD2.out, KK2.out⟩⟩
      | some f =>
        simp only [ptrOf]
        have HC2 := hide (show appendS S s zs = if 250000 < f.bs.length + zs.length then (2, S1) else if S1.q < usedS S1 + zs.length then (15, S1) else (0, { S1 with files := updF S1.files f.num (growF zs) }) by rw [HC.out, hf]; rfl)
        have hmem := (fileAt_mem hf).1
        obtain ⟨fo, fc, hc, hO, hbk, hcm, hB⟩ := (HD2.out.files f hmem).cells
        have hfl := (HD2.out.files f hmem).len
        have cf := cell_of (i := 0) hc rfl
        simp at cf
        have HCc := hide hc
        have HOo := hide hO
        have HBk := hide hbk
        have hcl := HK.out.1
        have hcl2 : S1.calls ≤ 1099511627776 := by omega
        clear HC hf hc hO hbk hB hcl hcm
        obtain ⟨L, hL⟩ : ∃ L, L = f.bs.length := ⟨_, rfl⟩
        have HL := hide hL
        rw [← hL] at cf hfl
        clear hL
        by_cases hlong : 250000 < f.bs.length + zs.length
        · have hlong' : ¬ ((len : Int) ≤ 250000 - (L : Int)) := by have := hlz.out; have := HL.out; omega
          have HLo := hide hlong
          clear hlong
          go_wp2
          go_ret
          exact ⟨by rw [HC2.out, if_pos HLo.out]; rfl, by rw [HC2.out, if_pos HLo.out]; exact ⟨G, HD2.out, KK2.out⟩⟩
        · have hlong' : ((len : Int) ≤ 250000 - (L : Int)) := by have := hlz.out; have := HL.out; omega
          have HLo := hide hlong
          clear hlong
          have hSz := hide (fun W (hW : DiskIs W R S1 G) => size_any R S1 G W hW hcl2)
          have q0 := HD2.out.cells.1.1
          have hu : usedS S1 ≤ 274877906944000000 := by
            have h1 := upto_le HD2.out (fun _ => false)
            rw [upto_end S1 (fun _ => false) (fun _ => rfl)] at h1
            omega
          have hlen : len ≤ 250000 := by omega
          have hqq := HD2.out.ok.quo
          have hwr : IntKind.i64.wrap ((usedS S1 : Int) + (len : Int)) = (usedS S1 : Int) + (len : Int) := by
            simp only [IntKind.wrap, IntKind.bits, IntKind.signed]
            simp
            omega
          go_wp2_with fail
          go_region_held_law (fun W => Below w2.heap.size w2 W ∧ W.cell? ⟨R, 0, none⟩ = some (.int .i64 S1.q))
            (first | exact q_drew (by assumption) | exact q_first (by assumption) | exact q_step (by assumption) (by assumption))
            (first | (go_at_call 53; refine (hSz.out _ (HD2.out.below (And.left (by assumption)))).mono ?_; rintro e w' ⟨rfl, hb'⟩))
          have hb3 : Below w2.heap.size w2 w' := ⟨hb'.os, hb'.tape, hb'.output, hb'.size, hb'.block⟩
          have HD3 := hide (HD2.out.below hb3)
          have KK3 := hide (KK2.out.trans (Kept.of_below hb3))
          clear hb3 hb' q0 HD2 KK2 hSz cf HCc HOo HBk
          generalize hU : usedS S1 = U at *
          have hHU := hide hU
          clear hU
          by_cases hq : S1.q < U + zs.length
          · have HQ := hide hq
            have hq' : ((S1.q : Int) < (U : Int) + (len : Int)) := by have := hlz.out; omega
            clear hq
            go_wp2
            go_ret
            exact ⟨by rw [HC2.out, if_neg HLo.out, if_pos HQ.out]; rfl, by rw [HC2.out, if_neg HLo.out, if_pos HQ.out]; exact ⟨G, HD3.out, KK3.out⟩⟩
          · have HQ := hide hq
            have hq' : ¬ ((S1.q : Int) < (U : Int) + (len : Int)) := by have := hlz.out; omega
            clear hq
            obtain ⟨fo3, fc3, hc3, hO3, hbk3, hcm3, hB3⟩ := (HD3.out.files f hmem).cells
            have cf3 := cell_of (i := 0) hc3 rfl
            simp at cf3
            have HB3 := hide (HB.out.kept KK3.out (fun b off ho => (HT.out b off ho).1))
            have GF := hide (fun w4 v' => grow_file (w1 := w4) (v' := v') (zs := zs) HD3.out hmem (by have := HLo.out; omega) (bs_range HB.out) hc3 hbk3)
            have HO3 := hide hO3
            have HF3 := hide (show ∀ w4, w'.grownBy w4 (Value.slice fo3 f.bs.length fc3).ownBlock → w4.cell? ⟨G.β f.num, 0, none⟩ = some (.slice fo3 f.bs.length fc3) ∧ w4.frozen? ⟨G.β f.num, 0, none⟩ = false from fun w4 g4 => by
              have hr : w4.heap[G.β f.num]? = some (.cells #[.slice fo3 f.bs.length fc3, .int .i64 f.lasts] 89 (0, 0)) := by
                rw [g4.block _ (Array.getElem?_eq_some_iff.1 hc3).1 (fun e => by have e1 := hbk3 _ e.symm; rw [(HD3.out.files f hmem).tag] at e1; omega)]
                exact hc3
              exact ⟨cell_of hr rfl, frozen_of_row w4 _ _ _ _ hr⟩)
            have hfb : f.bs.length + len ≤ 70368744177664 := by have := HL.out; omega
            clear hc3 hO3 hbk3 hcm3 hB3
            go_wp2_with (first
              | (at_builtin; refine wpList_append_at rfl _ _ rfl _ f.bs rfl HO3.out ao len cap zs rfl HB3.out hfb ?_; intro ao4 n4 cap4 w4 o4 g4 l4; have c4 := (HF3.out w4 g4).1; have f4 := (HF3.out w4 g4).2)
              | fail)
            have GG := hide (GF.out w4 _ o4 g4 l4)
            clear o4 g4 l4 GF HF3 HO3
            go_wp2
            go_ret
            obtain ⟨G', D', K'⟩ := GG.out
            exact ⟨by rw [HC2.out, if_neg HLo.out, if_neg HQ.out]; rfl, by rw [HC2.out, if_neg HLo.out, if_neg HQ.out]; exact ⟨G', D', KK3.out.trans K'⟩⟩
    · have HC2 := hide (show appendS S s zs = (e1, S1) by rw [HC.out, if_pos he])
      have hne : ¬ ((e1 : Int) = 0) := by omega
      go_wp2
      go_ret
      exact ⟨by rw [HC2.out]; rfl, by rw [HC2.out]; exact ⟨G, HD.out, KK.out⟩⟩

end Go.Proofs.YtdldpdllhnpdaaaGreat.Clep

/- What Read, Used, Calls and Sync of a Disk do when called (walks over the translated program): for any Disk of fewer than 2^40 calls, any name of at most 2^46 bytes. -/
namespace Go.Proofs.YtdldpdllhnpdaaaGreat.Clep
open Go.RowKit Go.Maps
set_option linter.unusedVariables false
set_option maxRecDepth 10000

def readS (S : St) (s : ByteArray) : Nat × List Int :=
  if okName s = false then (10, [])
  else if S.dead then (50, [])
  else match fileAt S.files (lk S.names s) with
    | none => (11, [])
    | some f => (0, f.bs)
theorem own_none (w : World) (B : Nat) : Own w B (.slice none 0 0) [] := ⟨rfl, .inl ⟨rfl, rfl⟩⟩
theorem own_slice {w : World} {B : Nat} {v : Value} {zs : List Int} (h : Own w B v zs) : ∃ ao cap, v = .slice ao zs.length cap := by
  obtain ⟨_, ⟨rfl, hn⟩ | ⟨g, cap, cur, rfl, _⟩⟩ := h
  · exact ⟨none, 0, by rw [hn]⟩
  · exact ⟨_, _, rfl⟩

set_option maxHeartbeats 400000 in
theorem dread_any (R : Nat) (S : St) (G : Gh) (s : ByteArray) (w : World) (h : DiskIs w R S G) (hs : s.size ≤ 70368744177664) :
    Calls Tryz.prog 17 #[.pointer (some ⟨R, 0, none⟩), .string s] w fun e w' => ∃ ao cap, e = .returned (.tuple #[.slice ao (readS S s).2.length cap, .int .i64 (readS S s).1]) ∧ Own w' w.heap.size (.slice ao (readS S s).2.length cap) (readS S s).2 ∧ Below w.heap.size w w' := by
  have H := hide h
  have c4 := h.cells.1.2.2.2.2
  clear h
  go_enter Tryz.func17, Tryz.ntmps17
  go_wp2_with fail
  refine (isName_any s w hs).mono ?_
  rintro e w1 ⟨rfl, rfl⟩
  cases ho : okName s
  · have hr : readS S s = (10, []) := by unfold readS; rw [if_pos ho]
    have Hr := hide hr
    clear hr
    go_wp2
    go_ret2
    rw [Hr.out]
    exact ⟨none, 0, rfl, own_none _ _, Below.refl _ _⟩
  · cases hd : S.dead
    · rw [hd] at c4
      have hF := hide (find_disk R S G s w1 H.out hs)
      go_wp2_with fail
      refine hF.out.mono ?_
      rintro e w2 ⟨rfl, b2⟩
      have HD2 := hide (H.out.below b2)
      have HB2 := hide b2
      clear b2 hF c4
      cases hf : fileAt S.files (lk S.names s) with
      | none =>
        have hr : readS S s = (11, []) := by unfold readS; rw [if_neg (by rw [ho]; simp), if_neg (by rw [hd]; simp), hf]
        have Hr := hide hr
        clear hr
        simp only [ptrOf]
        go_wp2
        go_ret2
        rw [Hr.out]
        exact ⟨none, 0, rfl, own_none _ _, HB2.out⟩
      | some f =>
        have hr : readS S s = (0, f.bs) := by unfold readS; rw [if_neg (by rw [ho]; simp), if_neg (by rw [hd]; simp), hf]
        have Hr := hide hr
        clear hr
        simp only [ptrOf]
        have hmem := (fileAt_mem hf).1
        obtain ⟨fo, fc, hc, hO, hbk, hcm, hB⟩ := (HD2.out.files f hmem).cells
        have hfl := (HD2.out.files f hmem).len
        have cf := cell_of (i := 0) hc rfl
        simp at cf
        have HBB := hide hB
        clear hc hO hbk hB hcm
        go_wp2_with (first
          | (at_builtin; refine wpList_append_bytes rfl _ _ rfl w1.heap.size _ [] rfl (own_none _ _) fo f.bs.length fc f.bs rfl HBB.out (by simp; omega) HB2.out.size ?_; intro v4 w4 o4 g4)
          | fail)
        rw [List.nil_append] at o4
        obtain ⟨ao, cap, rfl⟩ := own_slice o4
        have HO4 := hide o4
        have HG4 := hide (HB2.out.trans g4)
        clear o4 g4
        go_wp2
        go_ret2
        rw [Hr.out]
        exact ⟨ao, cap, rfl, HO4.out, HG4.out⟩
    · have hr : readS S s = (50, []) := by unfold readS; rw [if_neg (by rw [ho]; simp), if_pos hd]
      have Hr := hide hr
      clear hr
      rw [hd] at c4
      go_wp2
      go_ret2
      rw [Hr.out]
      exact ⟨none, 0, rfl, own_none _ _, Below.refl _ _⟩
end Go.Proofs.YtdldpdllhnpdaaaGreat.Clep
