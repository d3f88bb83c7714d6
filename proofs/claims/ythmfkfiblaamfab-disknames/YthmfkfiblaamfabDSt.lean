/- A Disk: what it holds, in numbers, bytes and maps, and how it lies in memory: each block of it bears a mark, by which two blocks are told apart. No conditions. -/
import Derived.Test.YthmfkfiblaamfabAppend
import Derived.Test.YthmfkfiblaamfabDShelf
import Derived.Maps.OwnSet
import Derived.Maps.AppendAt
import Derived.Maps.RangeWalk
import Derived.Maps.Ext
namespace Go.Proofs.Ythmfkfiblaamfab.Clep
open Go.RowKit Go.Maps
set_option linter.unusedVariables false

structure Fl where
  num : Nat
  bs : List Int
  lasts : Nat
structure Ch where
  kind : Nat
  name : ByteArray
  to : ByteArray
  file : Nat
structure St where
  q : Nat
  calls : Nat
  stop : Nat
  fail : Nat
  dead : Bool
  made : Nat
  files : List Fl
  names : DataW Unit
  lasting : DataW Unit
  since : List Ch
structure Gh where
  bf : Nat
  bn : Nat
  bl : Nat
  sv : Value
  β : Nat → Nat
  τ : Nat → Nat

def i64L (n : Int) : DataW Unit := .lit (.int .i64 n)
def key (s : ByteArray) : Lit := .string s.data.toList
def entries : DataW Unit → List (Lit × DataW Unit)
  | .map es => es
  | _ => []
def numOf : DataW Unit → Int
  | .lit (.int _ n) => n
  | _ => 0
def lk (D : DataW Unit) (s : ByteArray) : Int := numOf (D.atKey (key s) (i64L 0))
def fileAt (fs : List Fl) (n : Int) : Option Fl := fs.find? fun f => (f.num : Int) == n
def doS (D : DataW Unit) (c : Ch) : DataW Unit :=
  if c.kind = 0 then D.put (key c.name) (i64L c.file)
  else if c.kind = 1 then (if Maps.has D (key c.name) then (D.del (key c.name)).put (key c.to) (i64L (lk D c.name)) else D)
  else if c.kind = 2 then D.del (key c.name) else D

/-- An element of the files' map: the block that it leads to. -/
def ptrElem (v : Value) : Option (DataW Unit × List MemPlace) :=
  match v with
  | .pointer none => some (i64L (-1), [])
  | .pointer (some ⟨b, 0, none⟩) => some (i64L b, [])
  | _ => none
theorem ptrElem_nil : ptrElem (.pointer none) = some (i64L (-1), []) := rfl
theorem ptrElem_mk (b : Nat) : ptrElem (.pointer (some ⟨b, 0, none⟩)) = some (i64L b, []) := rfl
theorem ptrElem_nil_inv {v : Value} {ps : List MemPlace} (h : ptrElem v = some (i64L (-1), ps)) : v = .pointer none := by
  unfold ptrElem at h
  split at h
  · rfl
  · simp only [i64L, Option.some.injEq, Prod.mk.injEq, DataW.lit.injEq, Lit.int.injEq] at h
    omega
  · cases h
theorem ptrElem_inv {v : Value} {b : Nat} {ps : List MemPlace} (h : ptrElem v = some (i64L b, ps)) : v = .pointer (some ⟨b, 0, none⟩) := by
  unfold ptrElem at h
  split at h
  · simp only [i64L, Option.some.injEq, Prod.mk.injEq, DataW.lit.injEq, Lit.int.injEq] at h
    omega
  · simp only [i64L, Option.some.injEq, Prod.mk.injEq, DataW.lit.injEq, Lit.int.injEq] at h
    rename_i b'
    have hb : b' = b := by have := h.1.2; omega
    rw [hb]
  · cases h

def dRow (S : St) (G : Gh) : Array Value := #[.int .i64 S.q, .int .i64 S.calls, .int .i64 S.stop, .int .i64 S.fail, .bool S.dead, .int .i64 S.made, .map (some G.bf), .map (some G.bn), .map (some G.bl), G.sv]
def chCells (c : Ch) : List Value := [.int .i64 c.kind, .string c.name, .string c.to, .int .i64 c.file]
structure FileIs (w : World) (G : Gh) (f : Fl) : Prop where
  lies : ∃ v, w.heap[G.β f.num]? = some (.cells #[v, .int .i64 f.lasts] 62 (0, 0)) ∧ Own w 0 v f.bs ∧ ∀ g, v.ownBlock = some g → G.τ g = 7 + 2 * f.num
  tag : G.τ (G.β f.num) = 6 + 2 * f.num
  rng : ∀ z ∈ f.bs, 0 ≤ z ∧ z < 256
  len : f.bs.length ≤ 250000
  lst : f.lasts ≤ f.bs.length
def FilesD (β : Nat → Nat) (fs : List Fl) (D : DataW Unit) : Prop := ∀ k : Int,
  D.atKey (.int .i64 k) (i64L (-1)) = (match fileAt fs k with | some f => i64L (β f.num) | none => i64L (-1)) ∧ Maps.has D (.int .i64 k) = (fileAt fs k).isSome
/-- Every name leads to a file. -/
def Leads (fs : List Fl) (D : DataW Unit) : Prop := ∀ p ∈ entries D, ∃ f ∈ fs, p.2 = i64L f.num
structure Ok (S : St) : Prop where
  rise : S.files.Pairwise fun f g => f.num < g.num
  nums : ∀ f ∈ S.files, 1 ≤ f.num ∧ f.num ≤ S.made
  named : Leads S.files S.names
  lasted : Leads S.files S.lasting
  crea : ∀ c ∈ S.since, c.kind ≤ 2 ∧ c.name.size ≤ 16 ∧ c.to.size ≤ 16 ∧ (c.kind = 0 → ∃ f ∈ S.files, c.file = f.num) ∧ c.file ≤ S.made
  szn : Maps.size S.names ≤ S.calls
  szl : Maps.size S.lasting + S.since.length ≤ S.calls
  mad : S.made ≤ S.calls
  quo : S.q ≤ 9223372036854775807
  stp : S.stop ≤ 9223372036854775807
  fai : S.fail ≤ 9223372036854775807
structure DiskIs (w : World) (R : Nat) (S : St) (G : Gh) : Prop where
  row : w.heap[R]? = some (.cells (dRow S G) 57 (0, 0))
  fm : ∃ D, w.ownsMap Try.prog 3 ptrElem G.bf (Maps.size D) D ∧ FilesD G.β S.files D ∧ Maps.size D ≤ S.calls
  nm : w.ownsMap Try.prog 9 (plainElem Try.prog 3) G.bn (Maps.size S.names) S.names
  lm : w.ownsMap Try.prog 9 (plainElem Try.prog 3) G.bl (Maps.size S.lasting) S.lasting
  sc : w.ownsRow 0 65 4 G.sv S.since.length (S.since.flatMap chCells)
  files : ∀ f ∈ S.files, FileIs w G f
  tR : G.τ R = 1
  tf : G.τ G.bf = 2
  tn : G.τ G.bn = 3
  tl : G.τ G.bl = 4
  ts : ∀ g, G.sv.ownBlock = some g → G.τ g = 5
  top : ∀ i, w.heap.size ≤ i → G.τ i = 0
  ok : Ok S
/-- What a call of a Disk leaves: all but the Disk's own blocks is as it was, and none of these is the Disk's now. -/
structure Kept (G G' : Gh) (w w' : World) : Prop where
  os : w'.os = w.os
  tape : w'.tape = w.tape
  output : w'.output = w.output
  size : w.heap.size ≤ w'.heap.size
  block : ∀ i, i < w.heap.size → G.τ i = 0 → w'.heap[i]? = w.heap[i]?
  tag : ∀ i, i < w.heap.size → G.τ i = 0 → G'.τ i = 0
theorem Kept.refl (G : Gh) (w : World) : Kept G G w w := ⟨rfl, rfl, rfl, Nat.le_refl _, fun _ _ _ => rfl, fun _ _ h => h⟩
theorem Kept.trans {G G' G'' : Gh} {a b c : World} (h : Kept G G' a b) (k : Kept G' G'' b c) : Kept G G'' a c :=
  ⟨k.os.trans h.os, k.tape.trans h.tape, k.output.trans h.output, Nat.le_trans h.size k.size,
   fun i hi ht => (k.block i (Nat.lt_of_lt_of_le hi h.size) (h.tag i hi ht)).trans (h.block i hi ht),
   fun i hi ht => k.tag i (Nat.lt_of_lt_of_le hi h.size) (h.tag i hi ht)⟩
theorem Kept.of_below {G : Gh} {w w' : World} (h : Below w.heap.size w w') : Kept G G w w' := ⟨h.os, h.tape, h.output, h.size, fun i hi _ => h.block i hi, fun _ _ h => h⟩
theorem Kept.below {G G' : Gh} {w w' : World} (h : Kept G G' w w') {B : Nat} (hB : B ≤ w.heap.size) (ht : ∀ i, i < B → G.τ i = 0) : Below B w w' ∧ ∀ i, i < B → G'.τ i = 0 :=
  ⟨⟨h.os, h.tape, h.output, h.size, fun i hi => h.block i (Nat.lt_of_lt_of_le hi hB) (ht i hi)⟩, fun i hi => h.tag i (Nat.lt_of_lt_of_le hi hB) (ht i hi)⟩

/-- All blocks but those of one mark (and new ones) are as they were. -/
def Turn (τ : Nat → Nat) (t : Nat → Prop) (w w' : World) : Prop := w.heap.size ≤ w'.heap.size ∧ ∀ i, i < w.heap.size → ¬ t (τ i) → w'.heap[i]? = w.heap[i]?
theorem row_keep {τ : Nat → Nat} {t : Nat → Prop} {w w' : World} (h : Turn τ t w w') {b : Nat} {o : Obj} (hb : w.heap[b]? = some o) (ht : ¬ t (τ b)) : w'.heap[b]? = some o := by
  rw [h.2 b (Array.getElem?_eq_some_iff.1 hb).1 ht]; exact hb
theorem map_keep {H : Type} {τ : Nat → Nat} {t : Nat → Prop} {w w' : World} (h : Turn τ t w w') {k : TypeId} {E : Value → Option (DataW H × List MemPlace)} {b n : Nat} {D : DataW H}
    (hb : w.ownsMap Try.prog k E b n D) (ht : ¬ t (τ b)) : w'.ownsMap Try.prog k E b n D := by
  obtain ⟨es, clock, hh, r⟩ := hb
  exact ⟨es, clock, row_keep h hh ht, r⟩
theorem owns_keep {τ : Nat → Nat} {t : Nat → Prop} {w w' : World} (h : Turn τ t w w') {B e sz n : Nat} {v : Value} {xs : List Value} (hb : w.ownsRow B e sz v n xs) (ht : ∀ g, v.ownBlock = some g → ¬ t (τ g)) : w'.ownsRow B e sz v n xs := by
  obtain ⟨hl, ⟨rfl, hn⟩ | ⟨g, cap, cur, rfl, hg, hh, r⟩⟩ := hb
  · exact ⟨hl, .inl ⟨rfl, hn⟩⟩
  · exact ⟨hl, .inr ⟨g, cap, cur, rfl, hg, row_keep h hh (ht g rfl), r⟩⟩
theorem file_keep {w w' : World} {G : Gh} {f : Fl} {t : Nat → Prop} (h : Turn G.τ t w w') (hf : FileIs w G f) (h6 : ¬ t (6 + 2 * f.num)) (h7 : ¬ t (7 + 2 * f.num)) : FileIs w' G f := by
  obtain ⟨v, h1, h2, h3⟩ := hf.lies
  exact ⟨⟨v, row_keep h h1 (by rw [hf.tag]; exact h6), owns_keep h h2 (fun g hg => by rw [h3 g hg]; exact h7), h3⟩, hf.tag, hf.rng, hf.len, hf.lst⟩
theorem Turn.of_below {τ : Nat → Nat} {w w' : World} (h : Below w.heap.size w w') (t : Nat → Prop) : Turn τ t w w' := ⟨h.size, fun i hi _ => h.block i hi⟩
theorem Turn.trans {τ : Nat → Nat} {t : Nat → Prop} {a b c : World} (h : Turn τ t a b) (k : Turn τ t b c) : Turn τ t a c := ⟨Nat.le_trans h.1 k.1, fun i hi ht => (k.2 i (Nat.lt_of_lt_of_le hi h.1) ht).trans (h.2 i hi ht)⟩

theorem DiskIs.below {w w' : World} {R : Nat} {S : St} {G : Gh} (h : DiskIs w R S G) (hb : Below w.heap.size w w') : DiskIs w' R S G := by
  have T : Turn G.τ (fun _ => False) w w' := Turn.of_below hb _
  obtain ⟨D, f1, f2, f3⟩ := h.fm
  exact ⟨row_keep T h.row id, ⟨D, map_keep T f1 id, f2, f3⟩, map_keep T h.nm id, map_keep T h.lm id, owns_keep T h.sc (fun _ _ => id), fun f hf => file_keep T (h.files f hf) id id,
    h.tR, h.tf, h.tn, h.tl, h.ts, fun i hi => h.top i (Nat.le_trans hb.size hi), h.ok⟩
theorem DiskIs.lt {w : World} {R : Nat} {S : St} {G : Gh} (h : DiskIs w R S G) : R < w.heap.size := (Array.getElem?_eq_some_iff.1 h.row).1

/-- A number of the Disk's own block is set. -/
theorem DiskIs.set {w w' : World} {R : Nat} {S S' : St} {G : Gh} (h : DiskIs w R S G) (hr : w'.heap[R]? = some (.cells (dRow S' G) 57 (0, 0)))
    (ho : Turn G.τ (fun n => n = 1) w w') (hs : w'.heap.size = w.heap.size) (e1 : S'.files = S.files) (e2 : S'.names = S.names) (e3 : S'.lasting = S.lasting) (e4 : S'.since = S.since) (e5 : S.calls ≤ S'.calls) (ok : Ok S') : DiskIs w' R S' G := by
  obtain ⟨D, f1, f2, f3⟩ := h.fm
  refine ⟨hr, ⟨D, map_keep ho f1 (by rw [h.tf]; omega), by rw [e1]; exact f2, by omega⟩, by rw [e2]; exact map_keep ho h.nm (by rw [h.tn]; omega), by rw [e3]; exact map_keep ho h.lm (by rw [h.tl]; omega),
    by rw [e4]; exact owns_keep ho h.sc (fun g hg => by rw [h.ts g hg]; omega), by rw [e1]; exact fun f hf => file_keep ho (h.files f hf) (by omega) (by omega), h.tR, h.tf, h.tn, h.tl, h.ts, fun i hi => h.top i (by omega), ok⟩
theorem turn_set {τ : Nat → Nat} {w : World} {b i t : Nat} (v : Value) (hb : τ b = t) : Turn τ (fun n => n = t) w (w.setCell ⟨b, i, none⟩ v) :=
  ⟨by simp, fun k _ hk => heap_setCell_other w ⟨b, i, none⟩ k v (fun e => hk (by rw [show k = b from e]; exact hb))⟩
theorem tight {H : Type} {w : World} {k : TypeId} {E : Value → Option (DataW H × List MemPlace)} {b n : Nat} {D : DataW H} (h : w.ownsMap Try.prog k E b n D) : w.ownsMap Try.prog k E b (Maps.size D) D := by
  obtain ⟨es, clock, hb, F, hs, rfl⟩ := h
  refine ⟨es, clock, hb, F, ?_, rfl⟩
  rw [Maps.size_eq, length_read]
  exact Nat.le_refl _

end Go.Proofs.Ythmfkfiblaamfab.Clep
