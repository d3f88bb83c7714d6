/- What crash of a file does when called (a walk over the translated program): for any file of at most 250000 bytes, any numbers. -/
import Derived.Test.YtcahlmneancapabGreatDoorFh05
namespace Go.Proofs.YtcahlmneancapabGreatDoor.Clep
open Go.RowKit Go.Maps
set_option linter.unusedVariables false
set_option maxRecDepth 10000

def keepN (f : Fl) (ks : List Int) : Nat := if f.bs.length = f.lasts then 0 else match ks with
  | [] => f.bs.length - f.lasts
  | k :: _ => (k % ((f.bs.length - f.lasts : Nat) + 1 : Int)).toNat
def restK (f : Fl) (ks : List Int) : List Int := if f.bs.length = f.lasts then ks else ks.tail
def crashF (f : Fl) (ks : List Int) : Fl := { f with lasts := f.lasts + keepN f ks, bs := f.bs.take (f.lasts + keepN f ks) }
theorem keepN_le (f : Fl) (ks : List Int) (h : f.lasts ≤ f.bs.length) : f.lasts + keepN f ks ≤ f.bs.length := by
  unfold keepN
  split
  · omega
  · cases ks with
    | nil => simp only; omega
    | cons k r =>
      simp only
      have h1 := Int.emod_lt_of_pos k (show (0 : Int) < ((f.bs.length - f.lasts : Nat) : Int) + 1 by omega)
      omega

/-- A file's last step of a crash: its bytes are cut. -/
structure Near (b V : Nat) (Q : Nat → Prop) (ao : Option Addr) (cap L m : Nat) (ks : List Int) (w w5 : World) : Prop where
  row : w5.heap[b]? = some (.cells #[.slice ao L cap, .int .i64 m] 90 (0, 0))
  oth : ∀ i, i ≠ b → i ≠ V → w5.heap[i]? = w.heap[i]?
  size : w5.heap.size = w.heap.size
  os : w5.os = w.os ∧ w5.tape = w.tape ∧ w5.output = w.output
  var : ∃ v', Var1 w5 V v' ∧ NumV Q w5 v' ks
theorem near_set {b V : Nat} {Q : Nat → Prop} {ao : Option Addr} {cap L A m : Nat} {v' : Value} {ks : List Int} {w W : World} (hW : W.heap[b]? = some (.cells #[.slice ao L cap, .int .i64 A] 90 (0, 0))) (h1 : One V w W) (hV : Var1 W V v') (hk : NumV Q W v' ks) (hbV : b ≠ V) (hQ : ¬ Q b) :
    Near b V Q ao cap L m ks w (W.setCell ⟨b, 1, none⟩ (.int .i64 m)) := by
  have ho : ∀ i, i ≠ b → (W.setCell ⟨b, 1, none⟩ (.int .i64 m)).heap[i]? = W.heap[i]? := fun i hi => heap_setCell_other _ ⟨b, 1, none⟩ i _ hi
  refine ⟨by rw [heap_setCell_same W b 1 _ _ _ hW]; rfl, fun i hi hiV => (ho i hi).trans (h1.block i hiV), by simp [h1.size], ⟨h1.os, h1.tape, h1.output⟩, v', ?_, hk.keep fun i _ hi => ho i (fun e => hQ (by rw [← e]; exact hi))⟩
  obtain ⟨T, hT⟩ := hV
  exact ⟨T, (ho V hbV.symm).trans hT⟩
theorem near_end {b V : Nat} {Q : Nat → Prop} {ao : Option Addr} {cap L m : Nat} {ks : List Int} {w w5 : World} (h : Near b V Q ao cap L m ks w w5) (hbV : b ≠ V) (hQ : ¬ Q b) :
    (w5.setCell ⟨b, 0, none⟩ (.slice ao m cap)).heap[b]? = some (.cells #[.slice ao m cap, .int .i64 m] 90 (0, 0)) ∧ (∀ i, i ≠ b → i ≠ V → (w5.setCell ⟨b, 0, none⟩ (.slice ao m cap)).heap[i]? = w.heap[i]?) ∧ (w5.setCell ⟨b, 0, none⟩ (.slice ao m cap)).heap.size = w.heap.size ∧
      ((w5.setCell ⟨b, 0, none⟩ (.slice ao m cap)).os = w.os ∧ (w5.setCell ⟨b, 0, none⟩ (.slice ao m cap)).tape = w.tape ∧ (w5.setCell ⟨b, 0, none⟩ (.slice ao m cap)).output = w.output) ∧
      ∃ v', Var1 (w5.setCell ⟨b, 0, none⟩ (.slice ao m cap)) V v' ∧ NumV Q (w5.setCell ⟨b, 0, none⟩ (.slice ao m cap)) v' ks := by
  have ho : ∀ i, i ≠ b → (w5.setCell ⟨b, 0, none⟩ (.slice ao m cap)).heap[i]? = w5.heap[i]? := fun i hi => heap_setCell_other _ ⟨b, 0, none⟩ i _ hi
  obtain ⟨v', ⟨T, hT⟩, hk⟩ := h.var
  exact ⟨by rw [heap_setCell_same w5 b 0 _ _ _ h.row]; rfl, fun i hi hiV => (ho i hi).trans (h.oth i hi hiV), by simp [h.size], h.os, v', ⟨T, (ho V hbV.symm).trans hT⟩, hk.keep fun i _ hi => ho i (fun e => hQ (by rw [← e]; exact hi))⟩
theorem keepN_none (f : Fl) (h : f.bs.length ≠ f.lasts) : keepN f [] = f.bs.length - f.lasts := by unfold keepN; rw [if_neg h]
theorem keepN_some (f : Fl) (k : Int) (r : List Int) (h : f.bs.length ≠ f.lasts) : keepN f (k :: r) = (k % ((f.bs.length - f.lasts : Nat) + 1 : Int)).toNat := by unfold keepN; rw [if_neg h]

end Go.Proofs.YtcahlmneancapabGreatDoor.Clep

/- What a Crash of a Disk comes to, and the keys of its files in order. No conditions but the model's bounds. -/
namespace Go.Proofs.YtcahlmneancapabGreatDoor.Clep
open Go.RowKit Go.Maps Go.Sort Go.Shelf
set_option linter.unusedVariables false
set_option maxRecDepth 10000

def crashAll : List Fl → List Int → List Fl × List Int
  | [], ks => ([], ks)
  | f :: r, ks => (crashF f ks :: (crashAll r (restK f ks)).1, (crashAll r (restK f ks)).2)
def evenK : List Int → Bool
  | [] => true
  | k :: _ => k.tmod 2 == 0
def doAll : List Chn → DataW Unit → List Int → DataW Unit
  | [], D, _ => D
  | c :: r, D, ks => doAll r (if evenK ks then doS D c else D) ks.tail
def crashS (S : St) (ks : List Int) : St :=
  { settleS { S with files := (crashAll S.files ks).1, names := doAll S.since S.lasting (crashAll S.files ks).2, lasting := doAll S.since S.lasting (crashAll S.files ks).2, since := [] } with stop := 0, fail := 0, dead := false }
theorem crashAll_snoc : ∀ (l : List Fl) (f : Fl) (ks : List Int), crashAll (l ++ [f]) ks = ((crashAll l ks).1 ++ [crashF f (crashAll l ks).2], restK f (crashAll l ks).2)
  | [], f, ks => rfl
  | g :: l, f, ks => by
    rw [List.cons_append]
    simp only [crashAll]
    rw [crashAll_snoc l f (restK g ks)]
    rfl
theorem doAll_snoc : ∀ (l : List Chn) (c : Chn) (D : DataW Unit) (ks : List Int), doAll (l ++ [c]) D ks = if evenK (ks.drop l.length) then doS (doAll l D ks) c else doAll l D ks
  | [], c, D, ks => rfl
  | d :: l, c, D, ks => by
    rw [List.cons_append]
    simp only [doAll, List.length_cons]
    rw [doAll_snoc l c _ ks.tail, List.drop_tail]
theorem crashAll_nums : ∀ (l : List Fl) (ks : List Int), (crashAll l ks).1.map (·.num) = l.map (·.num)
  | [], ks => rfl
  | f :: l, ks => by
    simp only [crashAll, List.map_cons]
    rw [crashAll_nums l]
    rfl
theorem upd_mid {l r : List Fl} {f : Fl} {g : Fl → Fl} (h : (l ++ f :: r).Pairwise fun f g => f.num < g.num) : updF (l ++ f :: r) f.num g = l ++ g f :: r := by
  rw [List.pairwise_append] at h
  obtain ⟨_, h2, h3⟩ := h
  rw [List.pairwise_cons] at h2
  unfold updF
  rw [List.map_append, List.map_cons, if_pos rfl]
  congr 1
  · conv => rhs; rw [← List.map_id l]
    refine List.map_congr_left fun x hx => ?_
    have := h3 x hx f List.mem_cons_self
    rw [if_neg (by omega)]
    rfl
  · congr 1
    conv => rhs; rw [← List.map_id r]
    refine List.map_congr_left fun x hx => ?_
    have := h2.1 x hx
    rw [if_neg (by omega)]
    rfl

theorem sort_files {fs : List Fl} {ss : List Int} {D : DataW Unit} (hp : (fs.map fun f => (f.num : Int)).Perm (intKeys D)) (hs : ss.Perm (intKeys D)) (hr : fs.Pairwise fun f g => f.num < g.num) : ss.mergeSort (fun x y => decide (x ≤ y)) = fs.map fun f => (f.num : Int) := by
  rw [show (fun x y : Int => decide (x ≤ y)) = leI from rfl, mergeSort_of_perm_i (hs.trans hp.symm)]
  refine List.mergeSort_of_pairwise ?_
  rw [List.pairwise_map]
  exact hr.imp (fun {a b} h => by simp only [leI, decide_eq_true_eq]; omega)

end Go.Proofs.YtcahlmneancapabGreatDoor.Clep

/- What Crash of a Disk does when called: what the walk needs of one file, of one change of names, and at its ends. For any Disk of at most 2^40 calls, any numbers. -/
namespace Go.Proofs.YtcahlmneancapabGreatDoor.Clep
open Go.RowKit Go.Maps
set_option linter.unusedVariables false
set_option maxRecDepth 10000

def tagV (G : Gh) (V : Nat) : Gh := { G with τ := fun i => if i = V then 6 else G.τ i }
theorem tag_new {R : Nat} {S : St} {G : Gh} {w : World} (h : DiskIs w R S G) (o : Obj) : DiskIs (w.alloc o) R S (tagV G w.heap.size) ∧ Kept G (tagV G w.heap.size) w (w.alloc o) := by
  have hb := (Below.refl w.heap.size w).alloc (Nat.le_refl _) o
  have ht : ∀ i, G.τ i ≠ 0 → (tagV G w.heap.size).τ i = G.τ i := fun i h0 => by
    show (if i = w.heap.size then 6 else G.τ i) = _
    rw [if_neg]
    rintro rfl
    exact h0 (h.top _ (Nat.le_refl _))
  have h' := h.below hb
  refine ⟨⟨h'.row, h'.fm, h'.nm, h'.lm, h'.sc, fun f hf => (h'.files f hf).retag rfl fun i hi => ht i (by omega), ?_, ?_, ?_, ?_, ?_, ?_, h.ok⟩, ⟨rfl, rfl, rfl, by simp, fun i hi _ => Below.heap_alloc w o i hi, fun i hi h0 => ?_⟩⟩
  · rw [ht R (by rw [h.tR]; omega)]; exact h.tR
  · exact (ht G.bf (by rw [h.tf]; omega)).trans h.tf
  · exact (ht G.bn (by rw [h.tn]; omega)).trans h.tn
  · exact (ht G.bl (by rw [h.tl]; omega)).trans h.tl
  · exact fun g hg => (ht g (by rw [h.ts g hg]; omega)).trans (h.ts g hg)
  · intro i hi
    show (if i = w.heap.size then 6 else G.τ i) = 0
    simp at hi
    rw [if_neg (by omega)]
    exact h.top i (by omega)
  · show (if i = w.heap.size then 6 else G.τ i) = 0
    rw [if_neg (by omega)]
    exact h0
theorem own_take {w w' : World} {ao : Option Addr} {L m cap : Nat} {zs : List Int} (h : Own w 0 (.slice ao L cap) zs) (hl : zs.length = L) (hm : m ≤ L) (hk : ∀ g, (Value.slice ao L cap).ownBlock = some g → w'.heap[g]? = w.heap[g]?) : Own w' 0 (.slice ao m cap) (zs.take m) := by
  have hlen : (zs.take m).length = m := by rw [List.length_take]; omega
  obtain ⟨h1, ⟨h2, h3⟩ | ⟨g, cap', cur, h2, hg, hh, hnc, hcm, hcs, hx⟩⟩ := h
  · injection h2 with e1 e2 e3
    subst e1 e3
    have hm0 : m = 0 := by omega
    subst hm0
    exact ⟨rfl, .inl ⟨rfl, rfl⟩⟩
  · injection h2 with e1 e2 e3
    subst e1 e2 e3
    refine ⟨by rw [bv_len, hlen]; omega, .inr ⟨g, cap, cur, by rw [hlen], hg, (hk g rfl).trans hh, by rw [hlen]; omega, hcm, hcs, ?_⟩⟩
    rw [hlen]
    have : List.take (m * 1) cur.toList = List.take m (List.take (zs.length * 1) cur.toList) := by
      rw [List.take_take]; congr 1; omega
    rw [this, hx]
    simp [bv]
/-- One file has crashed. -/
theorem crash_turn {R V : Nat} {S : St} {G : Gh} {w w' : World} {f : Fl} {ao : Option Addr} {cap : Nat} {ks : List Int} (h : DiskIs w R S G) (hf : f ∈ S.files) (hV : G.τ V = 6)
    (hO : Own w 0 (.slice ao f.bs.length cap) f.bs) (hbk : ∀ g, (Value.slice ao f.bs.length cap).ownBlock = some g → G.τ g = 7 + 2 * f.num)
    (hr : w'.heap[G.β f.num]? = some (.cells #[.slice ao (f.lasts + keepN f ks) cap, .int .i64 (f.lasts + keepN f ks : Nat)] 90 (0, 0))) (ho : ∀ i, i ≠ G.β f.num → i ≠ V → w'.heap[i]? = w.heap[i]?) (hs : w'.heap.size = w.heap.size) (hos : w'.os = w.os ∧ w'.tape = w.tape ∧ w'.output = w.output) :
    DiskIs w' R { S with files := updF S.files f.num fun f => crashF f ks } G ∧ Kept G G w w' := by
  have F := h.files f hf
  have hnum := (h.ok.nums f hf).1
  have hle := keepN_le f ks F.lst
  refine file_turn (G' := G) (g := fun f => crashF f ks) (fun f => rfl) h hf ⟨by omega, fun i hi ht => ho i (fun e => ht (.inr (.inl (by rw [e]; exact F.tag)))) (fun e => ht (.inl (by rw [e]; exact hV)))⟩ hos rfl (fun i hi => absurd rfl hi) ?_
  refine ⟨⟨.slice ao (f.lasts + keepN f ks) cap, hr, own_take hO rfl hle (fun g hg => ?_), fun g hg => ?_⟩, F.tag, fun z hz => F.rng z (List.mem_of_mem_take hz), ?_, ?_⟩
  · have := hbk g hg
    exact ho g (fun e => by rw [e, F.tag] at this; omega) (fun e => by rw [e, hV] at this; omega)
  · refine hbk g ?_
    cases ao with
    | none => cases hg
    | some a => exact hg
  · show (f.bs.take _).length ≤ 250000
    rw [List.length_take]; have := F.len; omega
  · show f.lasts + keepN f ks ≤ (f.bs.take _).length
    rw [List.length_take]; omega
/-- The names that lasted take the names' place. -/
theorem names_set {R : Nat} {S : St} {G : Gh} {w w' : World} {L : DataW Unit} (h : DiskIs w R S G) (T : Turn G.τ (fun n => n = 4 ∨ n = 6) w w') (hL : w'.ownsMap Tryz.prog 9 (plainElem Tryz.prog 3) G.bl (Maps.size L) L) (hsz : Maps.size L ≤ S.calls) (hlead : Leads S.files L) (hos : w'.os = w.os ∧ w'.tape = w.tape ∧ w'.output = w.output) :
    ∃ G', DiskMid (w'.setCell ⟨R, 7, none⟩ (.map (some G.bl))) R { S with names := L, lasting := L, since := [] } G' ∧ Kept G G' w (w'.setCell ⟨R, 7, none⟩ (.map (some G.bl))) := by
  have r1 := drow_keep T h.row (by rw [h.tR]; omega)
  have hblR : G.bl ≠ R := fun e => by have e1 := h.tl; rw [e, h.tR] at e1; omega
  have T2 : Turn G.τ (fun n => n = 1 ∨ n = 4 ∨ n = 6) w (w'.setCell ⟨R, 7, none⟩ (.map (some G.bl))) := ⟨by simpa using T.1, fun i hi ht => by
    rw [heap_setCell_other w' ⟨R, 7, none⟩ i _ (fun e => ht (.inl (by rw [show i = R from e]; exact h.tR)))]
    exact T.2 i hi (fun e => ht (.inr e))⟩
  have ht : ∀ i, G.τ i ≠ 4 → (if i = G.bl then 3 else G.τ i) = G.τ i := fun i h0 => by
    rw [if_neg]
    rintro rfl
    exact h0 h.tl
  obtain ⟨D, f1, f2, f3⟩ := h.fm
  obtain ⟨a1, a2, a3, a4, a5, a6, a7, a8, a9, a10, a11⟩ := h.ok
  refine ⟨{ G with bn := G.bl, τ := fun i => if i = G.bl then 3 else G.τ i }, ⟨?_, ⟨D, map_keep T2 f1 (by rw [h.tf]; omega), f2, f3⟩, hL.setCell hblR _, fun f hf => ?_, ?_, ?_, if_pos rfl, fun i hi => ?_, ?_⟩, ?_⟩
  · rw [heap_setCell_same w' R 7 _ _ _ r1]; rfl
  · have hp := a2 f hf
    exact (file_keep T2 (h.files f hf) (by omega) (by omega)).retag rfl fun i hi => ht i (by omega)
  · exact (ht R (by rw [h.tR]; omega)).trans h.tR
  · exact (ht _ (by rw [h.tf]; omega)).trans h.tf
  · show (if i = G.bl then 3 else G.τ i) = 0
    have h1 := h.lm.lt
    have h2 := T2.1
    rw [if_neg (by omega)]
    exact h.top i (by omega)
  · exact ⟨a1, a2, hlead, hlead, fun c hc => (by cases hc), hsz, by show Maps.size L + 0 ≤ S.calls; omega, a8, a9, a10, a11⟩
  · refine ⟨hos.1, hos.2.1, hos.2.2, T2.1, fun i hi h0 => T2.2 i hi (by rw [h0]; omega), fun i hi h0 => ?_⟩
    show (if i = G.bl then 3 else G.τ i) = 0
    rw [ht i (by omega)]
    exact h0
theorem leads_crash {l : List Fl} {ks : List Int} {D : DataW Unit} (h : Leads l D) : Leads (crashAll l ks).1 D := by
  intro p hp
  obtain ⟨f, hf, e⟩ := h p hp
  have hn : f.num ∈ (crashAll l ks).1.map (·.num) := by rw [crashAll_nums]; exact List.mem_map.2 ⟨f, hf, rfl⟩
  obtain ⟨g, hg, e2⟩ := List.mem_map.1 hn
  exact ⟨g, hg, by rw [e]; rw [show f.num = g.num from e2.symm]⟩
theorem leads_all {fs : List Fl} : ∀ (l : List Chn) (D : DataW Unit) (ks : List Int), Leads fs D → (∀ c ∈ l, c.kind = 0 → ∃ f ∈ fs, c.file = f.num) → Leads fs (doAll l D ks)
  | [], D, ks, h, _ => h
  | c :: l, D, ks, h, hc => by
    simp only [doAll]
    refine leads_all l _ _ ?_ (fun c' hc' => hc c' (List.mem_cons_of_mem _ hc'))
    split
    · exact leads_do h (hc c List.mem_cons_self)
    · exact h

end Go.Proofs.YtcahlmneancapabGreatDoor.Clep

/- What Crash of a Disk does when called: the walk over the translated program. For any Disk of at most 2^40 calls, any numbers that are none of the Disk's own. -/
namespace Go.Proofs.YtcahlmneancapabGreatDoor.Clep
open Go.RowKit Go.Maps
set_option linter.unusedVariables false
set_option maxRecDepth 10000

/-- Numbers in a row that a call made, as a slice value. -/
theorem ints_slice {w : World} {B : Nat} {v : Value} {zs : List Int} (h : w.ownsRow B 3 1 v zs.length (zs.map encZ)) : ∃ so sc, v = .slice so zs.length sc ∧ zs.length ≤ sc ∧ (0 < zs.length → ∃ g, so = some ⟨g, 0, none⟩ ∧ B ≤ g ∧ g < w.heap.size ∧ ∀ i, i < zs.length → w.cell? ⟨g, i, none⟩ = some (.int .i64 (zs.getD i 0))) := by
  have h0 := h
  obtain ⟨h1, ⟨rfl, h3⟩ | ⟨g, cap, cur, rfl, hg, hh, hnc, hcm, hcs, hx⟩⟩ := h
  · exact ⟨none, 0, by rw [h3], by omega, fun h => by omega⟩
  · refine ⟨_, cap, rfl, hnc, fun _ => ⟨g, rfl, hg, (Array.getElem?_eq_some_iff.1 hh).1, fun i hi => ?_⟩⟩
    have hc := World.ownsRow.cells h0 (g := g) rfl i (.int .i64 (zs.getD i 0)) (by simp [List.getElem?_eq_getElem hi, List.getD])
    rwa [add_plain, Nat.zero_add] at hc
theorem pair_mid {l : List Fl} {j : Nat} {f : Fl} (h : l[j]? = some f) : l = l.take j ++ f :: l.drop (j + 1) ∧ l.take (j + 1) = l.take j ++ [f] := by
  obtain ⟨hj, rfl⟩ := List.getElem?_eq_some_iff.1 h
  refine ⟨?_, ?_⟩
  · rw [← List.drop_eq_getElem_cons hj, List.take_append_drop]
  · rw [List.take_succ_eq_append_getElem hj]
theorem row_slice {w : World} {B e sz n : Nat} {v : Value} {xs : List Value} (h : w.ownsRow B e sz v n xs) : ∃ so sc, v = .slice so n sc ∧ n ≤ sc ∧ (0 < n → ∃ g, so = some ⟨g, 0, none⟩ ∧ ∀ i u, xs[i]? = some u → w.cell? ⟨g, i, none⟩ = some u) := by
  have h0 := h
  obtain ⟨h1, ⟨rfl, h3⟩ | ⟨g, cap, cur, rfl, hg, hh, hnc, hcm, hcs, hx⟩⟩ := h
  · exact ⟨none, 0, by rw [h3], by omega, fun h => by omega⟩
  · refine ⟨_, cap, rfl, hnc, fun _ => ⟨g, rfl, fun i u hu => ?_⟩⟩
    have hc := World.ownsRow.cells h0 (g := g) rfl i u hu
    rwa [add_plain, Nat.zero_add] at hc
theorem ch_at {l : List Chn} {j : Nat} {c : Chn} (h : l[j]? = some c) (i : Nat) (hi : i < 4) : (l.flatMap chCells)[j * 4 + i]? = (chCells c)[i]? := by
  induction l generalizing j with
  | nil => simp at h
  | cons d l ih =>
    rw [List.flatMap_cons]
    cases j with
    | zero =>
      simp only [List.getElem?_cons_zero, Option.some.injEq] at h
      subst h
      rw [Nat.zero_mul, Nat.zero_add, List.getElem?_append_left (by simp [chCells]; omega)]
    | succ j =>
      simp only [List.getElem?_cons_succ] at h
      rw [List.getElem?_append_right (by simp [chCells]; omega)]
      have := ih h
      rw [show (j + 1) * 4 + i - (chCells d).length = j * 4 + i from by simp [chCells]; omega]
      exact this
theorem ch_take {l : List Chn} {j : Nat} {c : Chn} (h : l[j]? = some c) : l.take (j + 1) = l.take j ++ [c] := by
  obtain ⟨hj, rfl⟩ := List.getElem?_eq_some_iff.1 h
  rw [List.take_succ_eq_append_getElem hj]
theorem step_turn {τ : Nat → Nat} {V : Nat} {wS wr w4 : World} {o : Obj} (hT : Turn τ (fun n => n = 4 ∨ n = 6) wS wr) (hV : τ V = 6) (O1 : One V (wr.alloc o) w4) : Turn τ (fun n => n = 4 ∨ n = 6) wS w4 :=
  ⟨by have h1 := O1.size; simp at h1; have h2 := hT.1; omega, fun i hi ht => by
    rw [O1.block i (fun e => ht (.inr (by rw [e]; exact hV)))]
    exact (Below.heap_alloc wr o i (Nat.lt_of_lt_of_le hi hT.1)).trans (hT.2 i hi ht)⟩
theorem step_turn2 {τ : Nat → Nat} {b : Nat} {wS w4 w5 : World} (hT : Turn τ (fun n => n = 4 ∨ n = 6) wS w4) (hb : τ b = 4) (g5 : w4.drew.grownBy w5 (some b)) : Turn τ (fun n => n = 4 ∨ n = 6) wS w5 :=
  ⟨Nat.le_trans hT.1 g5.size, fun i hi ht => by
    rw [g5.block i (Nat.lt_of_lt_of_le hi hT.1) (fun e => ht (.inl (by rw [Option.some.inj e]; exact hb)))]
    exact hT.2 i hi ht⟩

end Go.Proofs.YtcahlmneancapabGreatDoor.Clep

/- What New, SyncDir and Sync of a Disk do when called (walks over the translated program): for any quota, any Disk of fewer than 2^40 calls, any name of at most 2^46 bytes. -/
namespace Go.Proofs.YtcahlmneancapabGreatDoor.Clep
open Go.RowKit Go.Maps
set_option linter.unusedVariables false
set_option maxRecDepth 10000

def newS (q : Nat) : St := ⟨q, 0, 0, 0, false, 0, [], .map [], .map [], []⟩
theorem new_is (q : Nat) (hq : q ≤ 9223372036854775807) (w : World) : ∃ G, DiskIs ((((w.alloc (.map #[] 0)).alloc (.map #[] 0)).alloc (.map #[] 0)).alloc (.cells #[.int .i64 q, .int .i64 0, .int .i64 0, .int .i64 0, .bool false, .int .i64 0, .map (some w.heap.size), .map (some (w.heap.size + 1)), .map (some (w.heap.size + 2)), .slice none 0 0] 67)) (w.heap.size + 3) (newS q) G ∧ ∀ i, i < w.heap.size → G.τ i = 0 := by
  have hm := fun W : World => MapKept.heap_alloc W
  have h1 := World.ownsMap_made w Tryz.prog 3 ptrElem
  have h2 := World.ownsMap_made (w.alloc (.map #[] 0)) Tryz.prog 9 (plainElem (H := Unit) Tryz.prog 3)
  have h3 := World.ownsMap_made ((w.alloc (.map #[] 0)).alloc (.map #[] 0)) Tryz.prog 9 (plainElem (H := Unit) Tryz.prog 3)
  simp only [World.size_alloc] at h2 h3
  refine ⟨⟨w.heap.size, w.heap.size + 1, w.heap.size + 2, .slice none 0 0, fun _ => 0, fun i => if i = w.heap.size + 3 then 1 else if i = w.heap.size then 2 else if i = w.heap.size + 1 then 3 else if i = w.heap.size + 2 then 4 else 0⟩, ⟨?_, ⟨_, tight (((h1.alloc _).alloc _).alloc _), ?_, Nat.zero_le _⟩, tight ((h2.alloc _).alloc _), tight (h3.alloc _), ⟨rfl, .inl ⟨rfl, rfl⟩⟩, fun f hf => (by cases hf), ?_, ?_, ?_, ?_, fun g hg => (by cases hg), ?_, ?_⟩, ?_⟩
  · have := (hm (((w.alloc (.map #[] 0)).alloc (.map #[] 0)).alloc (.map #[] 0)) (.cells #[.int .i64 q, .int .i64 0, .int .i64 0, .int .i64 0, .bool false, .int .i64 0, .map (some w.heap.size), .map (some (w.heap.size + 1)), .map (some (w.heap.size + 2)), .slice none 0 0] 67)).1
    simp only [World.size_alloc] at this
    exact this
  · intro k
    exact ⟨rfl, rfl⟩
  · simp
  · simp
  · simp
  · simp
  · intro i hi
    simp only [World.size_alloc] at hi
    show (if i = w.heap.size + 3 then 1 else if i = w.heap.size then 2 else if i = w.heap.size + 1 then 3 else if i = w.heap.size + 2 then 4 else 0) = 0
    rw [if_neg (by omega), if_neg (by omega), if_neg (by omega), if_neg (by omega)]
  · exact ⟨List.Pairwise.nil, fun f hf => (by cases hf), fun p hp => (by cases hp), fun p hp => (by cases hp), fun c hc => (by cases hc), Nat.le_refl _, Nat.le_refl _, Nat.le_refl _, hq, Nat.zero_le _, Nat.zero_le _⟩
  · intro i hi
    show (if i = w.heap.size + 3 then 1 else if i = w.heap.size then 2 else if i = w.heap.size + 1 then 3 else if i = w.heap.size + 2 then 4 else 0) = 0
    rw [if_neg (by omega), if_neg (by omega), if_neg (by omega), if_neg (by omega)]
theorem new_any (q : Nat) (w : World) (hq : q ≤ 9223372036854775807) :
    Calls Tryz.prog 6 #[.int .i64 q] w fun e w' => ∃ R G, e = .returned (.pointer (some ⟨R, 0, none⟩)) ∧ DiskIs w' R (newS q) G ∧ Below w.heap.size w w' ∧ ∀ i, i < w.heap.size → G.τ i = 0 := by
  have hmm := @run_makeMap Tryz.prog
  have hqz : ¬ ((q : Int) < 0) := by omega
  have hmx : max (q : Int) 0 = q := by omega
  have NI := hide (new_is q hq w)
  go_enter Tryz.func6, Tryz.ntmps6
  go_wp2
  go_ret
  obtain ⟨G, h1, h2⟩ := NI.out
  exact ⟨_, rfl, G, h1, (((((Below.refl _ w).alloc (Nat.le_refl _) _).alloc (by simp) _).alloc (by simp; omega) _).alloc (by simp; omega) _), h2⟩
def syncDirS (S : St) : Nat × St := if (beginS S).1 ≠ 0 then beginS S else (0, settleS (beginS S).2)
set_option maxHeartbeats 400000 in
theorem syncDir_any (R : Nat) (S : St) (G : Gh) (w : World) (h : DiskIs w R S G) (hm : S.calls < 1099511627776) :
    Calls Tryz.prog 51 #[.pointer (some ⟨R, 0, none⟩)] w fun e w' => e = .returned (.int .i64 (syncDirS S).1) ∧ ∃ G', DiskIs w' R (syncDirS S).2 G' ∧ Kept G G' w w' := by
  have BG := hide (begin_any R S G none [] w h (by omega) (by simp) (fun i hi => absurd hi (Nat.not_lt_zero _)) (fun s hs => by cases hs))
  clear h
  go_enter Tryz.func51, Tryz.ntmps51
  go_wp2_with fail
  refine BG.out.mono ?_
  clear BG
  rintro e w1 (⟨hno, rfl, rfl⟩ | ⟨hyes, rfl, D1, K1⟩)
  · cases hno
  · obtain ⟨e1, S1, hb⟩ : ∃ e1 S1, beginS S = (e1, S1) := ⟨_, _, rfl⟩
    have hk := (begin_keeps S).1
    have hc0 : syncDirS S = if e1 ≠ 0 then (e1, S1) else (0, settleS S1) := by unfold syncDirS; rw [hb]
    have HC := hide hc0
    rw [hb] at D1 hk ⊢
    have HD := hide D1
    have HK := hide K1
    clear hc0 K1 D1 hyes hb
    simp only at HD hk ⊢
    have hcl : S1.calls ≤ 1099511627776 := by omega
    clear hk
    by_cases he : e1 = 0
    · subst he
      have ST := hide (settle_any R S1 G w1 HD.out.mid hcl)
      go_wp2_with fail
      refine ST.out.mono ?_
      rintro e w2 ⟨rfl, G2, D2, K2⟩
      have HD2 := hide D2
      have HK2 := hide (HK.out.trans K2)
      clear D2 K2
      go_wp2
      go_ret
      exact ⟨by rw [HC.out]; rfl, by rw [HC.out]; exact ⟨G2, HD2.out, HK2.out⟩⟩
    · have HC2 := hide (show syncDirS S = (e1, S1) by rw [HC.out, if_pos he])
      have hne : ¬ ((e1 : Int) = 0) := by omega
      go_wp2
      go_ret
      exact ⟨by rw [HC2.out]; rfl, by rw [HC2.out]; exact ⟨G, HD.out, HK.out⟩⟩

def lastF (f : Fl) : Fl := { f with lasts := f.bs.length }
def syncS (S : St) (s : ByteArray) : Nat × St :=
  if okName s = false then (10, S)
  else if (beginS S).1 ≠ 0 then beginS S
  else match fileAt (beginS S).2.files (lk (beginS S).2.names s) with
    | none => (11, (beginS S).2)
    | some f => (0, { (beginS S).2 with files := updF (beginS S).2.files f.num lastF })
theorem sync_file {R : Nat} {S : St} {G : Gh} {w : World} {f : Fl} (h : DiskIs w R S G) (hf : f ∈ S.files) :
    DiskIs (w.setCell ⟨G.β f.num, 1, none⟩ (.int .i64 f.bs.length)) R { S with files := updF S.files f.num lastF } G ∧ Kept G G w (w.setCell ⟨G.β f.num, 1, none⟩ (.int .i64 f.bs.length)) := by
  have F := h.files f hf
  obtain ⟨ao, cap, hc, hO, hbk, hcm, hB⟩ := F.cells
  refine file_turn (G' := G) (g := lastF) (fun f => rfl) h hf ((turn_set (t := 6 + 2 * f.num) _ F.tag).mono fun n hn => .inr (.inl hn)) ⟨rfl, rfl, rfl⟩ rfl (fun i hi => absurd rfl hi) ?_
  refine ⟨⟨.slice ao f.bs.length cap, ?_, ?_, hbk⟩, F.tag, F.rng, F.len, Nat.le_refl _⟩
  · show (w.setCell ⟨G.β f.num, 1, none⟩ (.int .i64 f.bs.length)).heap[G.β f.num]? = _
    rw [heap_setCell_same w _ 1 _ _ _ hc]; rfl
  · exact owns_keep (turn_set (τ := G.τ) (t := 6 + 2 * f.num) _ F.tag) hO (fun g hg => by rw [hbk g hg]; omega)
set_option maxHeartbeats 400000 in
theorem sync_any (R : Nat) (S : St) (G : Gh) (s : ByteArray) (w : World) (h : DiskIs w R S G) (hm : S.calls < 1099511627776) (hs : s.size ≤ 70368744177664) :
    Calls Tryz.prog 31 #[.pointer (some ⟨R, 0, none⟩), .string s] w fun e w' => e = .returned (.int .i64 (syncS S s).1) ∧ ∃ G', DiskIs w' R (syncS S s).2 G' ∧ Kept G G' w w' := by
  have H := hide h
  have BA := (Below.refl w.heap.size w).alloc (Nat.le_refl _) (.cells #[.string s] 9)
  have BG := hide (begin_any R S G (some ⟨w.heap.size, 0, none⟩) [s] _ (h.below BA) (by omega) (by simp) (txts_one w s) (by simpa using hs))
  have HA := hide BA
  clear h BA
  go_enter Tryz.func31, Tryz.ntmps31
  go_wp2_with fail
  refine BG.out.mono ?_
  clear BG
  generalize w.alloc (.cells #[.string s] 9) = wA at *
  rintro e w1 (⟨hno, rfl, rfl⟩ | ⟨hyes, rfl, D1, K1⟩)
  · have hc : syncS S s = (10, S) := by unfold syncS; rw [if_pos (by simpa using hno)]
    have HC := hide hc
    clear hc
    go_wp2
    go_ret
    exact ⟨by rw [HC.out]; rfl, by rw [HC.out]; exact ⟨G, H.out.below HA.out, Kept.of_below HA.out⟩⟩
  · have hy : okName s = true := by simpa using hyes
    obtain ⟨e1, S1, hb⟩ : ∃ e1 S1, beginS S = (e1, S1) := ⟨_, _, rfl⟩
    have hc0 : syncS S s = if e1 ≠ 0 then (e1, S1) else match fileAt S1.files (lk S1.names s) with | none => (11, S1) | some f => (0, { S1 with files := updF S1.files f.num lastF }) := by
      unfold syncS; rw [if_neg (by rw [hy]; simp), hb]
    have HC := hide hc0
    have KK := hide ((Kept.of_below (G := G) HA.out).trans K1)
    rw [hb] at D1 ⊢
    have HD := hide D1
    clear hc0 K1 D1 hyes hb
    simp only at HD ⊢
    by_cases he : e1 = 0
    · subst he
      have hF := hide (find_disk R S1 G s w1 HD.out hs)
      go_wp2_with fail
      refine hF.out.mono ?_
      rintro e w2 ⟨rfl, b2⟩
      have HD2 := hide (HD.out.below b2)
      have KK2 := hide (KK.out.trans (Kept.of_below b2))
      clear b2 hF KK HD
      cases hf : fileAt S1.files (lk S1.names s) with
      | none =>
        have HC2 := hide (show syncS S s = (11, S1) by rw [HC.out, hf]; rfl)
        simp only [ptrOf]
        go_wp2
        go_ret
        exact ⟨by rw [HC2.out]; rfl, by rw [HC2.out]; exact ⟨G, HD2.out, KK2.out⟩⟩
      | some f =>
        simp only [ptrOf]
        have HC2 := hide (show syncS S s = (0, { S1 with files := updF S1.files f.num lastF }) by rw [HC.out, hf]; rfl)
        have hmem := (fileAt_mem hf).1
        obtain ⟨fo, fc, hc, _⟩ := (HD2.out.files f hmem).cells
        have cf := cell_of (i := 0) hc rfl
        have cl := cell_of (i := 1) hc rfl
        simp at cf cl
        have fl := frozen_of_row w2 (G.β f.num) 1 _ _ hc
        have SF := hide (sync_file HD2.out hmem)
        clear HC hf hc
        go_wp2
        go_ret
        exact ⟨by rw [HC2.out]; rfl, by rw [HC2.out]; exact ⟨G, SF.out.1, KK2.out.trans SF.out.2⟩⟩
    · have HC2 := hide (show syncS S s = (e1, S1) by rw [HC.out, if_pos he])
      have hne : ¬ ((e1 : Int) = 0) := by omega
      go_wp2
      go_ret
      exact ⟨by rw [HC2.out]; rfl, by rw [HC2.out]; exact ⟨G, HD.out, KK.out⟩⟩

end Go.Proofs.YtcahlmneancapabGreatDoor.Clep
