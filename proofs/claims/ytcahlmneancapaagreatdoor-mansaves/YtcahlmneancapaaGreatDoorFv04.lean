/- What of the library this program calls, each with the contract that the library holds: the keys of a map in order, a copy of a map, a copy of a text. No conditions. -/
import Derived.Shelf.SlIterI.Nil
import Derived.Shelf.SortM.Plain
import Derived.Shelf.SortM.SortNone
import Derived.Shelf.SlMaps.Clone
import Derived.Shelf.Strconv.Clone
import Derived.Ground.GgzProg
import Derived.Ground.SlgmProg
import Derived.Ground.SlmcProg
import Derived.Ground.NamesProg
import Derived.Test.YtcahlmneancapaaGreatDoorProg
import Derived.Test.YtcahlmneancapaaGreatDoorFv03
import Derived.Maps.OwnSet
import Derived.Maps.AppendAt
import Derived.Maps.RangeWalk
import Derived.Maps.Ext
import Derived.Deep.QuietTactic
import Derived.BigQuiet
namespace Go.Proofs
open Go.Shelf
def Tryz.keysA_ren : Go.Shelf.Ren := ⟨fun | 7 => 60 | 10 => 100 | n => n, fun | 23 => 68 | 26 => 3 | 3 => 106 | 28 => 125 | 0 => 0 | 27 => 124 | 33 => 130 | 4 => 4 | n => n, fun | n => n⟩
theorem Tryz.keysA : Go.Proofs.SlLaysZI.n7 Tryz.prog Tryz.keysA_ren := {
  mixed := by kernel_rfl
  f7 := ⟨Tryz.f60.name, by decide, Tryz.func60.trans (congrArg some (by kernel_rfl))⟩
  f10 := ⟨Tryz.f100.name, by decide, Tryz.func100.trans (congrArg some (by kernel_rfl))⟩
  t0 := Tryz.underlying0
  a0 := Tryz.isAgg0
  z0 := Tryz.sizeOf0
  v0 := Tryz.zeroValue0
  t4 := Tryz.underlying4
  a4 := Tryz.isAgg4
  z4 := Tryz.sizeOf4
  v4 := Tryz.zeroValue4
  t23 := Tryz.underlying68
  a23 := Tryz.isAgg68
  z23 := Tryz.sizeOf68
  v23 := Tryz.zeroValue68
  t26 := Tryz.underlying3
  a26 := Tryz.isAgg3
  z26 := Tryz.sizeOf3
  v26 := Tryz.zeroValue3
  t27 := Tryz.underlying124
  a27 := Tryz.isAgg124
  z27 := Tryz.sizeOf124
  v27 := Tryz.zeroValue124
  t28 := Tryz.underlying125
  a28 := Tryz.isAgg125
  z28 := Tryz.sizeOf125
  v28 := Tryz.zeroValue125
  t33 := Tryz.underlying130
  a33 := Tryz.isAgg130
  z33 := Tryz.sizeOf130
  v33 := Tryz.zeroValue130 }
def Tryz.sortedA_ren : Go.Shelf.Ren := ⟨fun | 6 => 59 | 8 => 98 | 9 => 99 | 11 => 128 | 13 => 119 | 12 => 129 | 23 => 151 | 24 => 152 | 14 => 159 | 15 => 160 | 16 => 161 | 17 => 162 | 18 => 163 | 19 => 164 | 20 => 165 | 21 => 166 | 22 => 167 | 25 => 190 | 26 => 179 | 27 => 180 | 28 => 191 | 29 => 192 | 30 => 193 | 31 => 208 | n => n, fun | 26 => 3 | 28 => 125 | 24 => 32 | 0 => 0 | 3 => 3 | 37 => 163 | 48 => 82 | 50 => 29 | 4 => 4 | 40 => 209 | 39 => 208 | 45 => 51 | 5 => 5 | 9 => 9 | 51 => 240 | 55 => 156 | 57 => 267 | 58 => 268 | 33 => 130 | n => n, fun | n => n⟩
theorem Tryz.sortedA : Go.Proofs.SlLaysZI.n6 Tryz.prog Tryz.sortedA_ren := {
  mixed := by kernel_rfl
  f6 := ⟨Tryz.f59.name, by decide, Tryz.func59.trans (congrArg some (by kernel_rfl))⟩
  f8 := ⟨Tryz.f98.name, by decide, Tryz.func98.trans (congrArg some (by kernel_rfl))⟩
  f11 := ⟨Tryz.f128.name, by decide, Tryz.func128.trans (congrArg some (by kernel_rfl))⟩
  t0 := Tryz.underlying0
  a0 := Tryz.isAgg0
  z0 := Tryz.sizeOf0
  v0 := Tryz.zeroValue0
  t24 := Tryz.underlying32
  a24 := Tryz.isAgg32
  z24 := Tryz.sizeOf32
  v24 := Tryz.zeroValue32
  t26 := Tryz.underlying3
  a26 := Tryz.isAgg3
  z26 := Tryz.sizeOf3
  v26 := Tryz.zeroValue3
  t28 := Tryz.underlying125
  a28 := Tryz.isAgg125
  z28 := Tryz.sizeOf125
  v28 := Tryz.zeroValue125
  i26 := by kernel_rfl }
def Tryz.sortA_ren : Go.Shelf.Ren := ⟨fun | 5 => 99 | 8 => 119 | 7 => 129 | 19 => 151 | 20 => 152 | 10 => 159 | 11 => 160 | 12 => 161 | 13 => 162 | 14 => 163 | 15 => 164 | 16 => 165 | 17 => 166 | 18 => 167 | 30 => 190 | 31 => 179 | 32 => 180 | 33 => 191 | 34 => 192 | 35 => 193 | 40 => 208 | n => n, fun | 23 => 32 | 25 => 3 | 3 => 3 | 32 => 163 | 22 => 32 | 0 => 0 | 44 => 82 | 46 => 29 | 4 => 4 | 36 => 209 | 35 => 208 | 41 => 51 | 5 => 5 | 9 => 9 | 53 => 240 | 57 => 156 | 63 => 267 | 64 => 268 | n => n, fun | n => n⟩
theorem Tryz.sortA : Go.Proofs.SlLaysM.n5 Tryz.prog Tryz.sortA_ren := {
  mixed := by kernel_rfl
  f5 := ⟨Tryz.f99.name, by decide, Tryz.func99.trans (congrArg some (by kernel_rfl))⟩
  f7 := ⟨Tryz.f129.name, by decide, Tryz.func129.trans (congrArg some (by kernel_rfl))⟩
  f8 := Tryz.func119.trans (congrArg some (by kernel_rfl))
  f10 := ⟨Tryz.f159.name, by decide, Tryz.func159.trans (congrArg some (by kernel_rfl))⟩
  f11 := ⟨Tryz.f160.name, by decide, Tryz.func160.trans (congrArg some (by kernel_rfl))⟩
  f12 := ⟨Tryz.f161.name, by decide, Tryz.func161.trans (congrArg some (by kernel_rfl))⟩
  f13 := ⟨Tryz.f162.name, by decide, Tryz.func162.trans (congrArg some (by kernel_rfl))⟩
  f14 := ⟨Tryz.f163.name, by decide, Tryz.func163.trans (congrArg some (by kernel_rfl))⟩
  f15 := ⟨Tryz.f164.name, by decide, Tryz.func164.trans (congrArg some (by kernel_rfl))⟩
  f16 := ⟨Tryz.f165.name, by decide, Tryz.func165.trans (congrArg some (by kernel_rfl))⟩
  f17 := ⟨Tryz.f166.name, by decide, Tryz.func166.trans (congrArg some (by kernel_rfl))⟩
  f18 := ⟨Tryz.f167.name, by decide, Tryz.func167.trans (congrArg some (by kernel_rfl))⟩
  f19 := Tryz.func151.trans (congrArg some (by kernel_rfl))
  f20 := Tryz.func152.trans (congrArg some (by kernel_rfl))
  f30 := ⟨Tryz.f190.name, by decide, Tryz.func190.trans (congrArg some (by kernel_rfl))⟩
  f31 := Tryz.func179.trans (congrArg some (by kernel_rfl))
  f32 := Tryz.func180.trans (congrArg some (by kernel_rfl))
  f33 := ⟨Tryz.f191.name, by decide, Tryz.func191.trans (congrArg some (by kernel_rfl))⟩
  f34 := ⟨Tryz.f192.name, by decide, Tryz.func192.trans (congrArg some (by kernel_rfl))⟩
  f35 := ⟨Tryz.f193.name, by decide, Tryz.func193.trans (congrArg some (by kernel_rfl))⟩
  f40 := ⟨Tryz.f208.name, by decide, Tryz.func208.trans (congrArg some (by kernel_rfl))⟩
  t0 := Tryz.underlying0
  a0 := Tryz.isAgg0
  z0 := Tryz.sizeOf0
  v0 := Tryz.zeroValue0
  t3 := Tryz.underlying3
  a3 := Tryz.isAgg3
  z3 := Tryz.sizeOf3
  v3 := Tryz.zeroValue3
  t4 := Tryz.underlying4
  a4 := Tryz.isAgg4
  z4 := Tryz.sizeOf4
  v4 := Tryz.zeroValue4
  t5 := Tryz.underlying5
  a5 := Tryz.isAgg5
  z5 := Tryz.sizeOf5
  v5 := Tryz.zeroValue5
  t9 := Tryz.underlying9
  a9 := Tryz.isAgg9
  z9 := Tryz.sizeOf9
  v9 := Tryz.zeroValue9
  t22 := Tryz.underlying32
  a22 := Tryz.isAgg32
  z22 := Tryz.sizeOf32
  v22 := Tryz.zeroValue32
  t23 := Tryz.underlying32
  a23 := Tryz.isAgg32
  z23 := Tryz.sizeOf32
  v23 := Tryz.zeroValue32
  t25 := Tryz.underlying3
  a25 := Tryz.isAgg3
  z25 := Tryz.sizeOf3
  v25 := Tryz.zeroValue3
  t32 := Tryz.underlying163
  a32 := Tryz.isAgg163
  z32 := Tryz.sizeOf163
  v32 := Tryz.zeroValue163
  t35 := Tryz.underlying208
  a35 := Tryz.isAgg208
  z35 := Tryz.sizeOf208
  v35 := Tryz.zeroValue208
  t36 := Tryz.underlying209
  a36 := Tryz.isAgg209
  z36 := Tryz.sizeOf209
  v36 := Tryz.zeroValue209
  t41 := Tryz.underlying51
  a41 := Tryz.isAgg51
  z41 := Tryz.sizeOf51
  v41 := Tryz.zeroValue51
  t44 := Tryz.underlying82
  a44 := Tryz.isAgg82
  z44 := Tryz.sizeOf82
  v44 := Tryz.zeroValue82
  t46 := Tryz.underlying29
  a46 := Tryz.isAgg29
  z46 := Tryz.sizeOf29
  v46 := Tryz.zeroValue29
  t53 := Tryz.underlying240
  a53 := Tryz.isAgg240
  z53 := Tryz.sizeOf240
  v53 := Tryz.zeroValue240
  t57 := Tryz.underlying156
  a57 := Tryz.isAgg156
  z57 := Tryz.sizeOf156
  v57 := Tryz.zeroValue156
  t63 := Tryz.underlying267
  a63 := Tryz.isAgg267
  z63 := Tryz.sizeOf267
  v63 := Tryz.zeroValue267
  t64 := Tryz.underlying268
  a64 := Tryz.isAgg268
  z64 := Tryz.sizeOf268
  v64 := Tryz.zeroValue268 }
def Tryz.cloneA_ren : Go.Shelf.Ren := ⟨fun | 5 => 102 | 7 => 130 | n => n, fun | 23 => 70 | 25 => 9 | 3 => 3 | 4 => 4 | 20 => 20 | n => n, fun | n => n⟩
theorem Tryz.cloneA : Go.Proofs.SlLaysW.n5 Tryz.prog Tryz.cloneA_ren := {
  mixed := by kernel_rfl
  f5 := ⟨Tryz.f102.name, by decide, Tryz.func102.trans (congrArg some (by kernel_rfl))⟩
  f7 := Tryz.func130.trans (congrArg some (by kernel_rfl))
  t4 := Tryz.underlying4
  a4 := Tryz.isAgg4
  z4 := Tryz.sizeOf4
  v4 := Tryz.zeroValue4
  t20 := Tryz.underlying20
  a20 := Tryz.isAgg20
  z20 := Tryz.sizeOf20
  v20 := Tryz.zeroValue20
  t23 := Tryz.underlying70
  a23 := Tryz.isAgg70
  z23 := Tryz.sizeOf70
  v23 := Tryz.zeroValue70 }
def Tryz.strCloneA_ren : Go.Shelf.Ren := ⟨fun | 316 => 91 | n => n, fun | 9 => 9 | 3 => 3 | 4 => 4 | 37 => 44 | 0 => 0 | 127 => 182 | 5 => 5 | n => n, fun | n => n⟩
theorem Tryz.strCloneA : Go.Proofs.LaysM.n316 Tryz.prog Tryz.strCloneA_ren := {
  mixed := by kernel_rfl
  f316 := Tryz.func91.trans (congrArg some (by kernel_rfl))
  t0 := Tryz.underlying0
  a0 := Tryz.isAgg0
  z0 := Tryz.sizeOf0
  v0 := Tryz.zeroValue0
  t3 := Tryz.underlying3
  a3 := Tryz.isAgg3
  z3 := Tryz.sizeOf3
  v3 := Tryz.zeroValue3
  t4 := Tryz.underlying4
  a4 := Tryz.isAgg4
  z4 := Tryz.sizeOf4
  v4 := Tryz.zeroValue4
  t9 := Tryz.underlying9
  a9 := Tryz.isAgg9
  z9 := Tryz.sizeOf9
  v9 := Tryz.zeroValue9
  t37 := Tryz.underlying44
  a37 := Tryz.isAgg44
  z37 := Tryz.sizeOf44
  v37 := Tryz.zeroValue44
  t127 := Tryz.underlying182
  a127 := Tryz.isAgg182
  z127 := Tryz.sizeOf182
  v127 := Tryz.zeroValue182
  t5 := Tryz.underlying5
  a5 := Tryz.isAgg5
  z5 := Tryz.sizeOf5
  v5 := Tryz.zeroValue5
  i0 := by kernel_rfl
  i3 := by kernel_rfl
  i4 := by kernel_rfl
  i5 := by kernel_rfl
  i9 := by kernel_rfl
  i37 := by kernel_rfl
  i127 := by kernel_rfl }
end Go.Proofs

/- A Disk: what it holds, in numbers, bytes and maps, and how it lies in memory: each block of it bears a mark, by which two blocks are told apart. No conditions. -/
namespace Go.Proofs.YtcahlmneancapaaGreatDoor.Clep
open Go.RowKit Go.Maps
set_option linter.unusedVariables false
set_option maxRecDepth 10000

structure Fl where
  num : Nat
  bs : List Int
  lasts : Nat
structure Chn where
  kind : Nat
  name : ByteArray
  to : ByteArray
  file : Nat
structure St where
  q : Nat
  calls : Nat
  stop : Nat
  fail : Nat
  dead : Bool
  made : Nat
  files : List Fl
  names : DataW Unit
  lasting : DataW Unit
  since : List Chn
structure Gh where
  bf : Nat
  bn : Nat
  bl : Nat
  sv : Value
  β : Nat → Nat
  τ : Nat → Nat

def i64L (n : Int) : DataW Unit := .lit (.int .i64 n)
def key (s : ByteArray) : Lit := .string s.data.toList
def entries : DataW Unit → List (Lit × DataW Unit)
  | .map es => es
  | _ => []
def numOf : DataW Unit → Int
  | .lit (.int _ n) => n
  | _ => 0
def lk (D : DataW Unit) (s : ByteArray) : Int := numOf (D.atKey (key s) (i64L 0))
def fileAt (fs : List Fl) (n : Int) : Option Fl := fs.find? fun f => (f.num : Int) == n
def doS (D : DataW Unit) (c : Chn) : DataW Unit :=
  if c.kind = 0 then D.put (key c.name) (i64L c.file)
  else if c.kind = 1 then (if Maps.has D (key c.name) then (D.del (key c.name)).put (key c.to) (i64L (lk D c.name)) else D)
  else if c.kind = 2 then D.del (key c.name) else D

/-- An element of the files' map: the block that it leads to. -/
def ptrElem (v : Value) : Option (DataW Unit × List MemPlace) :=
  match v with
  | .pointer none => some (i64L (-1), [])
  | .pointer (some ⟨b, 0, none⟩) => some (i64L b, [])
  | _ => none
theorem ptrElem_nil : ptrElem (.pointer none) = some (i64L (-1), []) := rfl
theorem ptrElem_mk (b : Nat) : ptrElem (.pointer (some ⟨b, 0, none⟩)) = some (i64L b, []) := rfl
theorem ptrElem_nil_inv {v : Value} {ps : List MemPlace} (h : ptrElem v = some (i64L (-1), ps)) : v = .pointer none := by
  unfold ptrElem at h
  split at h
  · rfl
  · simp only [i64L, Option.some.injEq, Prod.mk.injEq, DataW.lit.injEq, Lit.int.injEq] at h
    omega
  · cases h
theorem ptrElem_inv {v : Value} {b : Nat} {ps : List MemPlace} (h : ptrElem v = some (i64L b, ps)) : v = .pointer (some ⟨b, 0, none⟩) := by
  unfold ptrElem at h
  split at h
  · simp only [i64L, Option.some.injEq, Prod.mk.injEq, DataW.lit.injEq, Lit.int.injEq] at h
    omega
  · simp only [i64L, Option.some.injEq, Prod.mk.injEq, DataW.lit.injEq, Lit.int.injEq] at h
    rename_i b'
    have hb : b' = b := by have := h.1.2; omega
    rw [hb]
  · cases h

def dRow (S : St) (G : Gh) : Array Value := #[.int .i64 S.q, .int .i64 S.calls, .int .i64 S.stop, .int .i64 S.fail, .bool S.dead, .int .i64 S.made, .map (some G.bf), .map (some G.bn), .map (some G.bl), G.sv]
def chCells (c : Chn) : List Value := [.int .i64 c.kind, .string c.name, .string c.to, .int .i64 c.file]
structure FileIs (w : World) (G : Gh) (f : Fl) : Prop where
  lies : ∃ v, w.heap[G.β f.num]? = some (.cells #[v, .int .i64 f.lasts] 109 (0, 0)) ∧ Own w 0 v f.bs ∧ ∀ g, v.ownBlock = some g → G.τ g = 7 + 2 * f.num
  tag : G.τ (G.β f.num) = 6 + 2 * f.num
  rng : ∀ z ∈ f.bs, 0 ≤ z ∧ z < 256
  len : f.bs.length ≤ 250000
  lst : f.lasts ≤ f.bs.length
def FilesD (β : Nat → Nat) (fs : List Fl) (D : DataW Unit) : Prop := ∀ k : Int,
  D.atKey (.int .i64 k) (i64L (-1)) = (match fileAt fs k with | some f => i64L (β f.num) | none => i64L (-1)) ∧ Maps.has D (.int .i64 k) = (fileAt fs k).isSome
/-- Every name leads to a file. -/
def Leads (fs : List Fl) (D : DataW Unit) : Prop := ∀ p ∈ entries D, ∃ f ∈ fs, p.2 = i64L f.num
structure Ok (S : St) : Prop where
  rise : S.files.Pairwise fun f g => f.num < g.num
  nums : ∀ f ∈ S.files, 1 ≤ f.num ∧ f.num ≤ S.made
  named : Leads S.files S.names
  lasted : Leads S.files S.lasting
  crea : ∀ c ∈ S.since, c.kind ≤ 2 ∧ c.name.size ≤ 16 ∧ c.to.size ≤ 16 ∧ (c.kind = 0 → ∃ f ∈ S.files, c.file = f.num) ∧ c.file ≤ S.made
  szn : Maps.size S.names ≤ S.calls
  szl : Maps.size S.lasting + S.since.length ≤ S.calls
  mad : S.made ≤ S.calls
  quo : S.q ≤ 9223372036854775807
  stp : S.stop ≤ 9223372036854775807
  fai : S.fail ≤ 9223372036854775807
structure DiskIs (w : World) (R : Nat) (S : St) (G : Gh) : Prop where
  row : w.heap[R]? = some (.cells (dRow S G) 78 (0, 0))
  fm : ∃ D, w.ownsMap Tryz.prog 3 ptrElem G.bf (Maps.size D) D ∧ FilesD G.β S.files D ∧ Maps.size D ≤ S.calls
  nm : w.ownsMap Tryz.prog 9 (plainElem Tryz.prog 3) G.bn (Maps.size S.names) S.names
  lm : w.ownsMap Tryz.prog 9 (plainElem Tryz.prog 3) G.bl (Maps.size S.lasting) S.lasting
  sc : w.ownsRow 0 113 4 G.sv S.since.length (S.since.flatMap chCells)
  files : ∀ f ∈ S.files, FileIs w G f
  tR : G.τ R = 1
  tf : G.τ G.bf = 2
  tn : G.τ G.bn = 3
  tl : G.τ G.bl = 4
  ts : ∀ g, G.sv.ownBlock = some g → G.τ g = 5
  top : ∀ i, w.heap.size ≤ i → G.τ i = 0
  ok : Ok S
/-- What a call of a Disk leaves: all but the Disk's own blocks is as it was, and none of these is the Disk's now. -/
structure Kept (G G' : Gh) (w w' : World) : Prop where
  os : w'.os = w.os
  tape : w'.tape = w.tape
  output : w'.output = w.output
  size : w.heap.size ≤ w'.heap.size
  block : ∀ i, i < w.heap.size → G.τ i = 0 → w'.heap[i]? = w.heap[i]?
  tag : ∀ i, i < w.heap.size → G.τ i = 0 → G'.τ i = 0
theorem Kept.refl (G : Gh) (w : World) : Kept G G w w := ⟨rfl, rfl, rfl, Nat.le_refl _, fun _ _ _ => rfl, fun _ _ h => h⟩
theorem Kept.trans {G G' G'' : Gh} {a b c : World} (h : Kept G G' a b) (k : Kept G' G'' b c) : Kept G G'' a c :=
  ⟨k.os.trans h.os, k.tape.trans h.tape, k.output.trans h.output, Nat.le_trans h.size k.size,
   fun i hi ht => (k.block i (Nat.lt_of_lt_of_le hi h.size) (h.tag i hi ht)).trans (h.block i hi ht),
   fun i hi ht => k.tag i (Nat.lt_of_lt_of_le hi h.size) (h.tag i hi ht)⟩
theorem Kept.of_below {G : Gh} {w w' : World} (h : Below w.heap.size w w') : Kept G G w w' := ⟨h.os, h.tape, h.output, h.size, fun i hi _ => h.block i hi, fun _ _ h => h⟩
theorem Kept.below {G G' : Gh} {w w' : World} (h : Kept G G' w w') {B : Nat} (hB : B ≤ w.heap.size) (ht : ∀ i, i < B → G.τ i = 0) : Below B w w' ∧ ∀ i, i < B → G'.τ i = 0 :=
  ⟨⟨h.os, h.tape, h.output, h.size, fun i hi => h.block i (Nat.lt_of_lt_of_le hi hB) (ht i hi)⟩, fun i hi => h.tag i (Nat.lt_of_lt_of_le hi hB) (ht i hi)⟩

/-- All blocks but those of one mark (and new ones) are as they were. -/
def Turn (τ : Nat → Nat) (t : Nat → Prop) (w w' : World) : Prop := w.heap.size ≤ w'.heap.size ∧ ∀ i, i < w.heap.size → ¬ t (τ i) → w'.heap[i]? = w.heap[i]?
theorem drow_keep {τ : Nat → Nat} {t : Nat → Prop} {w w' : World} (h : Turn τ t w w') {b : Nat} {o : Obj} (hb : w.heap[b]? = some o) (ht : ¬ t (τ b)) : w'.heap[b]? = some o := by
  rw [h.2 b (Array.getElem?_eq_some_iff.1 hb).1 ht]; exact hb
theorem map_keep {H : Type} {τ : Nat → Nat} {t : Nat → Prop} {w w' : World} (h : Turn τ t w w') {k : TypeId} {E : Value → Option (DataW H × List MemPlace)} {b n : Nat} {D : DataW H}
    (hb : w.ownsMap Tryz.prog k E b n D) (ht : ¬ t (τ b)) : w'.ownsMap Tryz.prog k E b n D := by
  obtain ⟨es, clock, hh, r⟩ := hb
  exact ⟨es, clock, drow_keep h hh ht, r⟩
theorem owns_keep {τ : Nat → Nat} {t : Nat → Prop} {w w' : World} (h : Turn τ t w w') {B e sz n : Nat} {v : Value} {xs : List Value} (hb : w.ownsRow B e sz v n xs) (ht : ∀ g, v.ownBlock = some g → ¬ t (τ g)) : w'.ownsRow B e sz v n xs := by
  obtain ⟨hl, ⟨rfl, hn⟩ | ⟨g, cap, cur, rfl, hg, hh, r⟩⟩ := hb
  · exact ⟨hl, .inl ⟨rfl, hn⟩⟩
  · exact ⟨hl, .inr ⟨g, cap, cur, rfl, hg, drow_keep h hh (ht g rfl), r⟩⟩
theorem file_keep {w w' : World} {G : Gh} {f : Fl} {t : Nat → Prop} (h : Turn G.τ t w w') (hf : FileIs w G f) (h6 : ¬ t (6 + 2 * f.num)) (h7 : ¬ t (7 + 2 * f.num)) : FileIs w' G f := by
  obtain ⟨v, h1, h2, h3⟩ := hf.lies
  exact ⟨⟨v, drow_keep h h1 (by rw [hf.tag]; exact h6), owns_keep h h2 (fun g hg => by rw [h3 g hg]; exact h7), h3⟩, hf.tag, hf.rng, hf.len, hf.lst⟩
theorem Turn.of_below {τ : Nat → Nat} {w w' : World} (h : Below w.heap.size w w') (t : Nat → Prop) : Turn τ t w w' := ⟨h.size, fun i hi _ => h.block i hi⟩
theorem Turn.trans {τ : Nat → Nat} {t : Nat → Prop} {a b c : World} (h : Turn τ t a b) (k : Turn τ t b c) : Turn τ t a c := ⟨Nat.le_trans h.1 k.1, fun i hi ht => (k.2 i (Nat.lt_of_lt_of_le hi h.1) ht).trans (h.2 i hi ht)⟩

theorem DiskIs.below {w w' : World} {R : Nat} {S : St} {G : Gh} (h : DiskIs w R S G) (hb : Below w.heap.size w w') : DiskIs w' R S G := by
  have T : Turn G.τ (fun _ => False) w w' := Turn.of_below hb _
  obtain ⟨D, f1, f2, f3⟩ := h.fm
  exact ⟨drow_keep T h.row id, ⟨D, map_keep T f1 id, f2, f3⟩, map_keep T h.nm id, map_keep T h.lm id, owns_keep T h.sc (fun _ _ => id), fun f hf => file_keep T (h.files f hf) id id,
    h.tR, h.tf, h.tn, h.tl, h.ts, fun i hi => h.top i (Nat.le_trans hb.size hi), h.ok⟩
theorem DiskIs.lt {w : World} {R : Nat} {S : St} {G : Gh} (h : DiskIs w R S G) : R < w.heap.size := (Array.getElem?_eq_some_iff.1 h.row).1

/-- A number of the Disk's own block is set. -/
theorem DiskIs.set {w w' : World} {R : Nat} {S S' : St} {G : Gh} (h : DiskIs w R S G) (hr : w'.heap[R]? = some (.cells (dRow S' G) 78 (0, 0)))
    (ho : Turn G.τ (fun n => n = 1) w w') (hs : w'.heap.size = w.heap.size) (e1 : S'.files = S.files) (e2 : S'.names = S.names) (e3 : S'.lasting = S.lasting) (e4 : S'.since = S.since) (e5 : S.calls ≤ S'.calls) (ok : Ok S') : DiskIs w' R S' G := by
  obtain ⟨D, f1, f2, f3⟩ := h.fm
  refine ⟨hr, ⟨D, map_keep ho f1 (by rw [h.tf]; omega), by rw [e1]; exact f2, by omega⟩, by rw [e2]; exact map_keep ho h.nm (by rw [h.tn]; omega), by rw [e3]; exact map_keep ho h.lm (by rw [h.tl]; omega),
    by rw [e4]; exact owns_keep ho h.sc (fun g hg => by rw [h.ts g hg]; omega), by rw [e1]; exact fun f hf => file_keep ho (h.files f hf) (by omega) (by omega), h.tR, h.tf, h.tn, h.tl, h.ts, fun i hi => h.top i (by omega), ok⟩
theorem turn_set {τ : Nat → Nat} {w : World} {b i t : Nat} (v : Value) (hb : τ b = t) : Turn τ (fun n => n = t) w (w.setCell ⟨b, i, none⟩ v) :=
  ⟨by simp, fun k _ hk => heap_setCell_other w ⟨b, i, none⟩ k v (fun e => hk (by rw [show k = b from e]; exact hb))⟩
theorem tight {H : Type} {w : World} {k : TypeId} {E : Value → Option (DataW H × List MemPlace)} {b n : Nat} {D : DataW H} (h : w.ownsMap Tryz.prog k E b n D) : w.ownsMap Tryz.prog k E b (Maps.size D) D := by
  obtain ⟨es, clock, hb, F, hs, rfl⟩ := h
  refine ⟨es, clock, hb, F, ?_, rfl⟩
  rw [Maps.size_eq, length_read]
  exact Nat.le_refl _

end Go.Proofs.YtcahlmneancapaaGreatDoor.Clep

/- What the small calls of a Disk do (walks over the translated program): last, isName, modulo, the atomic count, find, next. No conditions but the bounds that each names. -/
namespace Go.Proofs.YtcahlmneancapaaGreatDoor.Clep
open Go.RowKit Go.Maps
set_option linter.unusedVariables false
set_option maxRecDepth 10000

theorem load_at (R o : Nat) (p : Int) (w : World) (h0 : w.cell? ⟨R, o, none⟩ = some (.int .i64 p)) :
    Calls Tryz.prog 114 #[.pointer (some ⟨R, o, none⟩)] w fun e w' => e = .returned (.int .i64 p) ∧ w' = w := by
  have hld := run_call_load (P := Tryz.prog) Tryz.func141 (by kernel_rfl) (by kernel_rfl) (by kernel_rfl) .i64 (by kernel_rfl) h0
  go_enter Tryz.func114, Tryz.ntmps114
  go_wp2
  go_ret
  exact ⟨rfl, rfl⟩
theorem add_at (R o : Nat) (p : Nat) (w : World) (h0 : w.cell? ⟨R, o, none⟩ = some (.int .i64 p)) (hf : w.frozen? ⟨R, o, none⟩ = false) (h2 : p ≤ 4611686018427387904) :
    Calls Tryz.prog 92 #[.pointer (some ⟨R, o, none⟩), .int .i64 1] w fun e w' => e = .returned (.int .i64 (p + 1)) ∧ w' = w.setCell ⟨R, o, none⟩ (.int .i64 (p + 1)) := by
  have hadd := run_call_add (P := Tryz.prog) Tryz.func120 (by kernel_rfl) (by kernel_rfl) (by kernel_rfl) .i64 (by kernel_rfl) (y := 1) (s := p + 1) h0 hf (by
    simp [go_sem, IntKind.wrap, IntKind.bits, IntKind.signed]
    omega)
  go_enter Tryz.func92, Tryz.ntmps92
  go_wp2
  go_ret
  exact ⟨rfl, rfl⟩
theorem last_any (R o n : Nat) (w : World) (h0 : w.cell? ⟨R, o, none⟩ = some (.int .i64 n)) (hf : w.frozen? ⟨R, o, none⟩ = false) (hn : n ≤ 9223372036854775807) :
    Calls Tryz.prog 93 #[.pointer (some ⟨R, o, none⟩)] w fun e w' => e = .returned (.bool (decide (n = 1))) ∧ (w' = w ∧ n = 0 ∨ w' = w.setCell ⟨R, o, none⟩ (.int .i64 ((n - 1 : Nat) : Int)) ∧ 0 < n) := by
  by_cases h : n = 0
  · subst h
    go_enter Tryz.func93, Tryz.ntmps93
    go_wp2
    go_ret
    exact ⟨by simp, .inl ⟨rfl, trivial⟩⟩
  · obtain ⟨m, rfl⟩ : ∃ m, n = m + 1 := ⟨n - 1, by omega⟩
    go_enter Tryz.func93, Tryz.ntmps93
    go_wp2
    go_ret
    refine ⟨ret_eq ?_, .inr ⟨by simp, by omega⟩⟩
    show Value.bool ((m : Int) == 0) = _
    congr 1
    rw [Bool.eq_iff_iff]
    simp
theorem modulo_any (k m : Int) (w : World) (h1 : 1 ≤ m) (h2 : m ≤ 1000000) (hk : (Lit.int .i64 k).wf = true) :
    Calls Tryz.prog 101 #[.int .i64 k, .int .i64 m] w fun e w' => e = .returned (.int .i64 (k % m)) ∧ w' = w := by
  go_enter Tryz.func101, Tryz.ntmps101
  go_wp2
  go_ret
  have ha1 := Int.tmod_lt_of_pos k (show 0 < m by omega)
  have ha2 := Int.tmod_lt_of_pos (-k) (show 0 < m by omega)
  rw [Int.neg_tmod] at ha2
  have e1 : wrap64 (k.tmod m + m) = k.tmod m + m := by
    generalize k.tmod m = x at *
    unfold wrap64
    omega
  have e2 : k.tmod m % m = k % m := by
    have := Int.mul_tdiv_add_tmod k m
    conv => rhs; rw [← this]
    rw [Int.mul_add_emod_self_left]
  refine ⟨ret_eq ?_, rfl⟩
  show Value.int .i64 ((wrap64 (k.tmod m + m)).tmod m) = _
  rw [e1, Int.tmod_eq_emod_of_nonneg (by omega), Int.add_emod_right, e2]

/-- A byte that a name may have. -/
def okB (z : Nat) : Bool := z = 46 || (97 ≤ z && z ≤ 122) || (48 ≤ z && z ≤ 57)
theorem okB_iff (z : Nat) : okB z = true ↔ z = 46 ∨ (97 ≤ z ∧ z ≤ 122) ∨ (48 ≤ z ∧ z ≤ 57) := by
  unfold okB
  simp [or_assoc]
def okName (s : ByteArray) : Bool := decide (1 ≤ s.size) && decide (s.size ≤ 16) && s.data.toList.all fun b => okB b.toNat
theorem okName_upto (s : ByteArray) (k : Nat) (h : k < s.size) (hp : ∀ i (hi : i < s.size), i < k → okB (s[i]'hi).toNat = true) : okB (s[k]'h).toNat = true → ∀ i (hi : i < s.size), i < k + 1 → okB (s[i]'hi).toNat = true := by
  intro ho i hi hik
  rcases Nat.lt_or_ge i k with h1 | h1
  · exact hp i hi h1
  · obtain rfl : i = k := by omega
    exact ho
theorem okName_bad (s : ByteArray) (k : Nat) (h : k < s.size) (hb : okB (s[k]'h).toNat = false) : okName s = false := by
  unfold okName
  rw [Bool.and_eq_false_iff]
  right
  rw [List.all_eq_false]
  refine ⟨s[k]'h, ?_, by rw [hb]; simp⟩
  show s.data[k]'h ∈ _
  exact Array.getElem_mem_toList _
theorem okName_good (s : ByteArray) (h : 1 ≤ s.size ∧ s.size ≤ 16) (hp : ∀ i (hi : i < s.size), i < s.size → okB (s[i]'hi).toNat = true) : okName s = true := by
  unfold okName
  rw [Bool.and_eq_true, Bool.and_eq_true]
  refine ⟨⟨decide_eq_true h.1, decide_eq_true h.2⟩, ?_⟩
  rw [List.all_eq_true]
  intro b hb
  obtain ⟨i, hi, rfl⟩ := List.getElem_of_mem hb
  have hi' : i < s.size := by rw [Array.length_toList] at hi; exact hi
  exact hp i hi' hi'
theorem isName_any (s : ByteArray) (w : World) (hs : s.size ≤ 70368744177664) :
    Calls Tryz.prog 48 #[.string s] w fun e w' => e = .returned (.bool (okName s)) ∧ w' = w := by
  by_cases h : 1 ≤ s.size ∧ s.size ≤ 16
  · have H := hide h
    have d1 : ¬ ((s.size : Int) < 1) := by omega
    have d2 : ¬ ((16 : Int) < (s.size : Int)) := by omega
    clear h
    go_enter Tryz.func48, Tryz.ntmps48
    go_wp2
    go_loop [15] (fun i => ∃ k : Nat, k ≤ s.size ∧ i = .int .i64 k ∧ Hid (∀ i (hi : i < s.size), i < k → okB (s[i]'hi).toNat = true)) (fun i => s.size - (intOf i).toNat)
    case atStart => exact ⟨0, by omega, rfl, hide (fun i hi h => by omega)⟩
    case round =>
      obtain ⟨k, hk, rfl, hT⟩ := hrel
      by_cases hlk : k < s.size
      · obtain ⟨z, hck⟩ : ∃ z : Nat, (s[k]'hlk).toNat = z := ⟨_, rfl⟩
        have hz : z < 256 := by rw [← hck]; exact UInt8.toNat_lt _
        have HG := hide (okName_upto s k hlk hT.out)
        have HB := hide (okName_bad s k hlk)
        rw [hck] at HG HB
        clear hT
        have hok := okB_iff z
        go_wp2
        all_goals first
          | (refine ⟨⟨k + 1, by omega, by go_num, hide (HG.out (hok.2 (by first | omega | (simp only [bne_eq_false_iff_eq] at *; omega))))⟩, ?_⟩; simp [intOf]; omega)
          | (go_ret; exact ⟨by rw [HB.out (by rw [← Bool.not_eq_true, hok]; omega)]; rfl, rfl⟩)
      · have h8 : k = s.size := by omega
        subst h8
        have HO := hide (okName_good s H.out hT.out)
        go_wp2
        go_ret
        exact ⟨by rw [HO.out]; rfl, rfl⟩
  · have ho : okName s = false := by
      unfold okName
      have : ¬ (1 ≤ s.size ∧ s.size ≤ 16) := h
      simp only [Bool.and_eq_false_iff, decide_eq_false_iff_not]
      left
      omega
    rw [ho]
    by_cases h1 : s.size < 1
    · have d1 : ((s.size : Int) < 1) := by omega
      go_enter Tryz.func48, Tryz.ntmps48
      go_wp2
      go_ret
      exact ⟨rfl, rfl⟩
    · have d1 : ¬ ((s.size : Int) < 1) := by omega
      have d2 : ((16 : Int) < (s.size : Int)) := by omega
      go_enter Tryz.func48, Tryz.ntmps48
      go_wp2
      go_ret
      exact ⟨rfl, rfl⟩

theorem next_none (R : Nat) (ao : Option Addr) (cap : Nat) (w : World) (h : w.cell? ⟨R, 0, none⟩ = some (.slice ao 0 cap)) :
    Calls Tryz.prog 62 #[.pointer (some ⟨R, 0, none⟩)] w fun e w' => e = .returned (.tuple #[.int .i64 0, .bool false]) ∧ w' = w := by
  go_enter Tryz.func62, Tryz.ntmps62
  go_wp2
  go_ret2
  exact ⟨rfl, rfl⟩
theorem next_some (R b off len cap : Nat) (k : Int) (w : World) (h : w.cell? ⟨R, 0, none⟩ = some (.slice (some ⟨b, off, none⟩) (len + 1) cap)) (hf : w.frozen? ⟨R, 0, none⟩ = false) (hc : w.cell? ⟨b, off, none⟩ = some (.int .i64 k))
    (hl : len + 1 ≤ cap) (hm : cap ≤ 9223372036854775807) :
    Calls Tryz.prog 62 #[.pointer (some ⟨R, 0, none⟩)] w fun e w' => e = .returned (.tuple #[.int .i64 k, .bool true]) ∧
      w' = w.setCell ⟨R, 0, none⟩ (.slice (if cap = 1 then some ⟨b, off, none⟩ else some ⟨b, off + 1, none⟩) len (cap - 1)) := by
  go_enter Tryz.func62, Tryz.ntmps62
  go_wp2
  · go_ret2
    refine ⟨rfl, ?_⟩
    subst h
    simp
  · go_ret2
    refine ⟨rfl, ?_⟩
    rfl

/-- A row of numbers that a slice value leads to. -/
def NumV (Q : Nat → Prop) (w : World) (v : Value) (ks : List Int) : Prop := ∃ ao cap, v = .slice ao ks.length cap ∧ ks.length ≤ cap ∧ cap ≤ 9223372036854775807 ∧ (∀ k ∈ ks, (Lit.int .i64 k).wf = true) ∧
  (0 < ks.length → ∃ b off, ao = some ⟨b, off, none⟩ ∧ Q b ∧ ∀ i, i < ks.length → w.cell? ⟨b, off + i, none⟩ = some (.int .i64 (ks.getD i 0)))
theorem NumV.keep {Q : Nat → Prop} {w w' : World} {v : Value} {ks : List Int} (h : NumV Q w v ks) (hk : ∀ i, i < w.heap.size → Q i → w'.heap[i]? = w.heap[i]?) : NumV Q w' v ks := by
  obtain ⟨ao, cap, h1, h2, h3, h4, h5⟩ := h
  refine ⟨ao, cap, h1, h2, h3, h4, fun h0 => ?_⟩
  obtain ⟨b, off, e, hq, hc⟩ := h5 h0
  exact ⟨b, off, e, hq, fun i hi => by rw [World.cell?_of_block (w := w) (hk b (World.block_lt_of_cell? w _ (hc i hi)) hq)]; exact hc i hi⟩
/-- A variable of one cell, in a block of its own. -/
def Var1 (w : World) (R : Nat) (v : Value) : Prop := ∃ T, w.heap[R]? = some (.cells #[v] T (0, 0))
theorem Var1.cell {w : World} {R : Nat} {v : Value} (h : Var1 w R v) : w.cell? ⟨R, 0, none⟩ = some v := by
  obtain ⟨T, h⟩ := h
  simp [World.cell?, h]
theorem Var1.froz {w : World} {R : Nat} {v : Value} (h : Var1 w R v) : w.frozen? ⟨R, 0, none⟩ = false := by
  obtain ⟨T, h⟩ := h
  simp [World.frozen?, h]
theorem Var1.lt {w : World} {R : Nat} {v : Value} (h : Var1 w R v) : R < w.heap.size := by
  obtain ⟨T, h⟩ := h
  exact (Array.getElem?_eq_some_iff.1 h).1
theorem Var1.set {w : World} {R : Nat} {v : Value} (h : Var1 w R v) (u : Value) : Var1 (w.setCell ⟨R, 0, none⟩ u) R u := by
  obtain ⟨T, h⟩ := h
  exact ⟨T, by rw [heap_setCell_same w R 0 _ T u h]; rfl⟩
/-- One block has turned, and nothing else. -/
structure One (R : Nat) (w w' : World) : Prop where
  os : w'.os = w.os
  tape : w'.tape = w.tape
  output : w'.output = w.output
  size : w'.heap.size = w.heap.size
  block : ∀ i, i ≠ R → w'.heap[i]? = w.heap[i]?
theorem One.refl (R : Nat) (w : World) : One R w w := ⟨rfl, rfl, rfl, rfl, fun _ _ => rfl⟩
theorem One.set (R i : Nat) (w : World) (v : Value) : One R w (w.setCell ⟨R, i, none⟩ v) := ⟨rfl, rfl, rfl, by simp, fun k hk => heap_setCell_other w ⟨R, i, none⟩ k v hk⟩
theorem One.trans {R : Nat} {a b c : World} (h : One R a b) (k : One R b c) : One R a c := ⟨k.os.trans h.os, k.tape.trans h.tape, k.output.trans h.output, k.size.trans h.size, fun i hi => (k.block i hi).trans (h.block i hi)⟩
theorem dnext_any (Q : Nat → Prop) (R : Nat) (v : Value) (ks : List Int) (w : World) (hv : Var1 w R v) (hn : NumV Q w v ks) :
    Calls Tryz.prog 62 #[.pointer (some ⟨R, 0, none⟩)] w fun e w' => e = .returned (.tuple #[.int .i64 (ks.getD 0 0), .bool (!ks.isEmpty)]) ∧ One R w w' ∧ ∃ v', Var1 w' R v' ∧ NumV Q w' v' ks.tail := by
  obtain ⟨ao, cap, rfl, hl, hm, hw, hc⟩ := hn
  cases ks with
  | nil =>
    refine (next_none R ao cap w hv.cell).mono ?_
    rintro e w' ⟨rfl, rfl⟩
    exact ⟨rfl, One.refl _ _, _, hv, ⟨ao, cap, rfl, hl, hm, hw, hc⟩⟩
  | cons k ks =>
    obtain ⟨b, off, rfl, hq, hb⟩ := hc (by simp)
    have hb0 := hb 0 (by simp)
    simp only [Nat.add_zero, List.getD_cons_zero] at hb0
    have hne : b ≠ R := by
      rintro rfl
      obtain ⟨T, hT⟩ := hv
      simp only [World.cell?, hT] at hb0
      cases off with
      | zero => simp at hb0
      | succ n => simp at hb0
    refine (next_some R b off ks.length cap k w hv.cell hv.froz hb0 hl hm).mono ?_
    rintro e w' ⟨rfl, rfl⟩
    refine ⟨rfl, One.set _ _ _ _, _, hv.set _, _, _, rfl, by simp at hl ⊢; omega, by omega, fun x hx => hw x (List.mem_cons_of_mem _ hx), fun h0 => ?_⟩
    simp only [List.tail_cons] at h0 ⊢
    simp only [List.length_cons] at hl
    refine ⟨b, off + 1, by rw [if_neg (by omega)], hq, fun i hi => ?_⟩
    rw [World.cell?_of_block (heap_setCell_other w ⟨R, 0, none⟩ b _ hne)]
    have := hb (i + 1) (by simp; omega)
    rw [show off + (i + 1) = off + 1 + i from by omega] at this
    rw [this]
    simp

end Go.Proofs.YtcahlmneancapaaGreatDoor.Clep

/- What find and size of a Disk do when called (walks over the translated program): for any Disk and any name. No conditions. -/
namespace Go.Proofs.YtcahlmneancapaaGreatDoor.Clep
open Go.RowKit Go.Maps
set_option linter.unusedVariables false
set_option maxRecDepth 10000

theorem lawS : Keyed Tryz.prog 9 := string_keyed Tryz.underlying9
theorem zeroI (w : World) : (zeroValue 3).run Tryz.prog w = .ok (.int .i64 0) w := by kernel_rfl
theorem zeroP (w : World) : (zeroValue 106).run Tryz.prog w = .ok (.pointer none) w := by kernel_rfl
theorem key_str {s : ByteArray} (h : s.size ≤ 70368744177664) : keyOf Tryz.prog 9 (.string s) = some (key s) := Go.WideMaps.keyOf_string_mk Tryz.underlying9 (by unfold maxLen; omega)

/-- The cells of a Disk's own block. -/
theorem DiskIs.cells {w : World} {R : Nat} {S : St} {G : Gh} (h : DiskIs w R S G) :
    (w.cell? ⟨R, 0, none⟩ = some (.int .i64 S.q) ∧ w.cell? ⟨R, 1, none⟩ = some (.int .i64 S.calls) ∧ w.cell? ⟨R, 2, none⟩ = some (.int .i64 S.stop) ∧ w.cell? ⟨R, 3, none⟩ = some (.int .i64 S.fail) ∧ w.cell? ⟨R, 4, none⟩ = some (.bool S.dead)) ∧
    (w.cell? ⟨R, 5, none⟩ = some (.int .i64 S.made) ∧ w.cell? ⟨R, 6, none⟩ = some (.map (some G.bf)) ∧ w.cell? ⟨R, 7, none⟩ = some (.map (some G.bn)) ∧ w.cell? ⟨R, 8, none⟩ = some (.map (some G.bl)) ∧ w.cell? ⟨R, 9, none⟩ = some G.sv) ∧
    ∀ i, w.frozen? ⟨R, i, none⟩ = false := by
  refine ⟨⟨?_, ?_, ?_, ?_, ?_⟩, ⟨?_, ?_, ?_, ?_, ?_⟩, fun i => frozen_of_row w R i _ _ h.row⟩ <;> simp [World.cell?, h.row, dRow]

/-- Where a name's file lies. -/
def ptrOf (G : Gh) : Option Fl → Value
  | some f => .pointer (some ⟨G.β f.num, 0, none⟩)
  | none => .pointer none
theorem look_name {w : World} {b n : Nat} {D : DataW Unit} (h : w.ownsMap Tryz.prog 9 (plainElem Tryz.prog 3) b n D) {s : ByteArray} (hs : s.size ≤ 70368744177664) (c : Bool) :
    (Instr.lookup 70 (.map (some b)) (.string s) false).run Tryz.prog w = .ok (.int .i64 (lk D s)) w ∧ (Lit.int .i64 (lk D s)).wf = true ∧ D.atKey (key s) (i64L 0) = i64L (lk D s) := by
  obtain ⟨c, h1, h2, h3⟩ := h.lookup_int lawS Tryz.underlying70 Tryz.underlying3 (zeroI w) (key_str hs)
  have e : lk D s = c := by unfold lk; rw [show i64L 0 = .lit (.int .i64 0) from rfl, h2]; rfl
  rw [e]
  exact ⟨h1, h3, h2⟩
theorem look_file {w : World} {b n : Nat} {D : DataW Unit} {β : Nat → Nat} {fs : List Fl} (G : Gh) (hG : G.β = β) (h : w.ownsMap Tryz.prog 3 ptrElem b n D) (hD : FilesD β fs D) {k : Int} (hk : (Lit.int .i64 k).wf = true) :
    (Instr.lookup 68 (.map (some b)) (.int .i64 k) false).run Tryz.prog w = .ok (ptrOf G (fileAt fs k)) w := by
  obtain ⟨v, ps, h1, h2⟩ := h.lookup lawI Tryz.underlying68 (zeroP w) ptrElem_nil (keyOf_int_mk Tryz.underlying3 hk)
  rw [(hD k).1] at h2
  rw [h1]
  cases hf : fileAt fs k with
  | none => rw [hf] at h2; rw [ptrElem_nil_inv h2]; rfl
  | some f => rw [hf] at h2; rw [ptrElem_inv h2, ← hG]; rfl

theorem find_any (R : Nat) (S : St) (G : Gh) (s : ByteArray) (w : World) (h : DiskIs w R S G) (hs : s.size ≤ 70368744177664) :
    Calls Tryz.prog 49 #[.pointer (some ⟨R, 0, none⟩), .string s] w fun e w' => e = .returned (ptrOf G (fileAt S.files (lk S.names s))) ∧ ∃ n, w' = w.drewN n := by
  obtain ⟨D, f1, f2, f3⟩ := h.fm
  obtain ⟨⟨c0, c1, c2, c3, c4⟩, ⟨c5, c6, c7, c8, c9⟩, fr⟩ := h.cells
  have l1 : ∀ n, (Instr.lookup 70 (.map (some G.bn)) (.string s) false).run Tryz.prog (w.drewN n) = .ok (.int .i64 (lk S.names s)) (w.drewN n) := fun n => (look_name (w := w.drewN n) h.nm hs false).1
  have hw := (look_name h.nm hs false).2.1
  have l2 : ∀ n, (Instr.lookup 68 (.map (some G.bf)) (.int .i64 (lk S.names s)) false).run Tryz.prog (w.drewN n) = .ok (ptrOf G (fileAt S.files (lk S.names s))) (w.drewN n) := fun n => look_file (w := w.drewN n) G rfl f1 f2 hw
  clear f1 f2 f3 h c0 c1 c2 c3 c4 c5 c8 c9 fr hw
  go_enter Tryz.func49, Tryz.ntmps49
  go_wp2
  go_quiet (fail)
  go_wp2
  go_ret
  exact ⟨rfl, _, rfl⟩

theorem drewN_below (w : World) (n : Nat) : Below w.heap.size w (w.drewN n) := ⟨rfl, rfl, rfl, Nat.le_refl _, fun _ _ => rfl⟩
theorem find_disk (R : Nat) (S : St) (G : Gh) (s : ByteArray) (w : World) (h : DiskIs w R S G) (hs : s.size ≤ 70368744177664) :
    Calls Tryz.prog 49 #[.pointer (some ⟨R, 0, none⟩), .string s] w fun e w' => e = .returned (ptrOf G (fileAt S.files (lk S.names s))) ∧ Below w.heap.size w w' := by
  refine (find_any R S G s w h hs).mono ?_
  rintro e w' ⟨rfl, n, rfl⟩
  exact ⟨rfl, drewN_below w n⟩

/-- THE STEP of a range over a map from texts to numbers. -/
theorem next_si (w : World) {ops : Array Oper} {rest : List Oper} {o : Oper} {a : Act} {Q : Exit → Act → World → Prop} (hg : o.guard = none) (it : Operand) (hop : o.op = Op.next it false)
    (b r n : Nat) (D : DataW Unit) (left : Lit → Bool) (cnt : Nat) (hit : a.eval it = .pointer (some ⟨r, 0, none⟩)) (h : w.ranges Tryz.prog 9 (plainElem Tryz.prog 3) b r n D left cnt)
    (hDone : cnt = 0 → (∀ kl, left kl = false) → wpList Tryz.prog ops Q rest (a.put o.dst (.tuple #[.bool false])) w)
    (hMore : ∀ (x : ByteArray) (c : Int) (w' : World) (cnt' : Nat), (Lit.int .i64 c).wf = true → left (key x) = true → (∀ zd, D.atKey (key x) zd = i64L c) → w'.ranges Tryz.prog 9 (plainElem Tryz.prog 3) b r n D (fun z => left z && !z.sameKey (key x)) cnt' → cnt' < cnt →
      w.grownBy w' (some r) → w'.heap.size = w.heap.size → (Instr.entry (.pointer (some ⟨r, 0, none⟩))).run Tryz.prog w' = .ok (.tuple #[.string x, .int .i64 c]) w' → wpList Tryz.prog ops Q rest (a.put o.dst (.tuple #[.bool true, .string x, .int .i64 c])) w') :
    wpList Tryz.prog ops Q (o :: rest) a w := by
  have inv : ∀ k kl, keyOf Tryz.prog 9 k = some kl → ∃ x : ByteArray, k = .string x ∧ kl = key x := by
    intro k kl hk
    cases k <;> simp [keyOf, Tryz.underlying9, mapKey] at hk
    exact ⟨_, rfl, hk.2.symm⟩
  refine wpList_next_ranges w hg it hop 9 lawS (plainElem Tryz.prog 3) Value.string (Value.int .i64) (fun k kl hk => by obtain ⟨x, rfl, _⟩ := inv k kl hk; exact ⟨x, rfl⟩)
    (fun v y hv => by obtain ⟨c, rfl, _⟩ := plainElem_int_inv Tryz.underlying3 hv; exact ⟨c, rfl⟩) b r n D left cnt hit h hDone (fun x c kl y w' cnt' hkey hlk hv hat hrg hlt hgr hsz hen => ?_)
  obtain ⟨x', ex, rfl⟩ := inv _ kl hkey
  cases ex
  obtain ⟨c', ec, rfl, hwc⟩ := plainElem_int_inv Tryz.underlying3 hv
  cases ec
  exact hMore x c w' cnt' hwc hlk hat hrg hlt hgr hsz hen

def flen (fs : List Fl) (n : Int) : Nat := match fileAt fs n with | some f => f.bs.length | none => 0
/-- How many bytes those files have together whose names have been met. -/
def upto (fs : List Fl) (D : DataW Unit) (left : Lit → Bool) : Nat := (((entries D).filter fun p => !left p.1).map fun p => flen fs (numOf p.2)).sum
def usedS (S : St) : Nat := ((entries S.names).map fun p => flen S.files (numOf p.2)).sum
theorem upto_start (fs : List Fl) (D : DataW Unit) (hc : Canon D) : upto fs D (Maps.has D) = 0 := by
  obtain ⟨es, rfl, _, hk⟩ := hc
  unfold upto
  rw [List.filter_eq_nil_iff.2]
  · rfl
  · intro p hp
    simp only [entries] at hp
    simp only [Maps.has_eq, Bool.not_eq_true', Bool.not_eq_false, List.any_eq_true]
    exact ⟨p, hp, WideAt.sameKey_self (hk p hp)⟩
theorem upto_end (S : St) (left : Lit → Bool) (h : ∀ k, left k = false) : upto S.files S.names left = usedS S := by
  unfold upto usedS
  rw [List.filter_eq_self.2]
  intro p _
  simp [h]
theorem sum_step (g : Lit × DataW Unit → Nat) (left : Lit → Bool) (k : Lit) (hk : left k = true) (p0 : Lit × DataW Unit) (h0 : p0.1 = k) (hK : WideAt.IsKeyLit k) : ∀ es : List (Lit × DataW Unit), es.Pairwise (fun p q => p.1 ≠ q.1) → p0 ∈ es →
    ((es.filter fun p => !(left p.1 && !p.1.sameKey k)).map g).sum = ((es.filter fun p => !left p.1).map g).sum + g p0
  | [], _, h => by cases h
  | x :: r, hp, h => by
    rw [List.pairwise_cons] at hp
    by_cases hx : x.1 = k
    · have e0 : x = p0 := by
        rcases List.mem_cons.1 h with h | h
        · exact h.symm
        · exact absurd (hx.trans h0.symm) (hp.1 p0 h)
      have er : (r.filter fun p => !(left p.1 && !p.1.sameKey k)) = r.filter fun p => !left p.1 := by
        refine List.filter_congr fun p hp' => ?_
        have : p.1.sameKey k = false := Maps.sameKey_ne (fun e => hp.1 p hp' (hx.trans e.symm))
        simp [this]
      rw [List.filter_cons_of_pos (by rw [hx, WideAt.sameKey_self hK]; simp), List.filter_cons_of_neg (by rw [hx, hk]; simp), er, e0]
      simp
      omega
    · have hr : p0 ∈ r := by
        rcases List.mem_cons.1 h with h | h
        · exact absurd (by rw [← h]; exact h0) hx
        · exact h
      have ih := sum_step g left k hk p0 h0 hK r hp.2 hr
      have hs : x.1.sameKey k = false := Maps.sameKey_ne hx
      by_cases hl : left x.1 = true
      · rw [List.filter_cons_of_neg (by rw [hl, hs]; simp), List.filter_cons_of_neg (by rw [hl]; simp), ih]
      · rw [List.filter_cons_of_pos (by rw [Bool.not_eq_true] at hl; rw [hl]; simp), List.filter_cons_of_pos (by rw [Bool.not_eq_true] at hl; rw [hl]; simp), List.map_cons, List.map_cons, List.sum_cons, List.sum_cons, ih]
        omega
theorem entry_of {D : DataW Unit} {k : Lit} {y : DataW Unit} (hc : Canon D) (hat : ∀ zd, D.atKey k zd = y) : ∃ p ∈ entries D, p.1 = k ∧ p.2 = y := by
  obtain ⟨es, rfl, _, _⟩ := hc
  simp only [DataW.atKey] at hat
  cases hf : es.find? (fun p => p.1.sameKey k) with
  | none => rw [hf] at hat; have h1 := hat (i64L 0); have h2 := hat (i64L 1); simp only at h1 h2; rw [← h2] at h1; cases h1
  | some p => rw [hf] at hat; exact ⟨p, List.mem_of_find?_eq_some hf, WideAt.sameKey_eq (by have := List.find?_some hf; exact this), hat (i64L 0)⟩
theorem upto_step (fs : List Fl) (D : DataW Unit) (left : Lit → Bool) (k : Lit) (c : Int) (hc : Canon D) (hK : WideAt.IsKeyLit k) (hk : left k = true) (hat : ∀ zd, D.atKey k zd = i64L c) :
    upto fs D (fun z => left z && !z.sameKey k) = upto fs D left + flen fs c := by
  obtain ⟨p, hp, h1, h2⟩ := entry_of hc hat
  obtain ⟨es, rfl, hr, _⟩ := hc
  have := sum_step (fun p => flen fs (numOf p.2)) left k hk p h1 hK es (Maps.apart_of_rising hr) hp
  unfold upto
  simp only [entries]
  rw [this, h2]
  rfl
theorem flen_le {w : World} {R : Nat} {S : St} {G : Gh} (h : DiskIs w R S G) (n : Int) : flen S.files n ≤ 250000 := by
  unfold flen
  cases hf : fileAt S.files n with
  | none => simp
  | some f => exact (h.files f (List.mem_of_find?_eq_some hf)).len
theorem sum_le (g : Lit × DataW Unit → Nat) (B : Nat) (hg : ∀ p, g p ≤ B) : ∀ es : List (Lit × DataW Unit), (es.map g).sum ≤ es.length * B
  | [] => by simp
  | x :: r => by
    have := sum_le g B hg r
    have := hg x
    simp only [List.map_cons, List.sum_cons, List.length_cons, Nat.add_mul]
    omega
theorem upto_le {w : World} {R : Nat} {S : St} {G : Gh} (h : DiskIs w R S G) (left : Lit → Bool) : upto S.files S.names left ≤ S.calls * 250000 := by
  obtain ⟨es, he⟩ := h.nm.isMap
  have h1 := sum_le (fun p => flen S.files (numOf p.2)) 250000 (fun p => flen_le h _) ((entries S.names).filter fun p => !left p.1)
  have h2 := List.length_filter_le (fun p => !left p.1) (entries S.names)
  have h3 := h.ok.szn
  rw [he] at h1 h2 h3 ⊢
  rw [Maps.size_eq] at h3
  simp only [entries] at h1 h2
  unfold upto
  simp only [entries]
  have h4 : (es.filter fun p => !left p.1).length * 250000 ≤ S.calls * 250000 := Nat.mul_le_mul_right _ (Nat.le_trans h2 h3)
  exact Nat.le_trans h1 h4

end Go.Proofs.YtcahlmneancapaaGreatDoor.Clep

/- What size of a Disk does when called (a walk over the translated program): for any Disk of at most 2^40 calls. -/
namespace Go.Proofs.YtcahlmneancapaaGreatDoor.Clep
open Go.RowKit Go.Maps
set_option linter.unusedVariables false
set_option maxRecDepth 10000

theorem fileAt_mem {fs : List Fl} {n : Int} {f : Fl} (h : fileAt fs n = some f) : f ∈ fs ∧ n = f.num := by
  refine ⟨List.mem_of_find?_eq_some h, ?_⟩
  have := List.find?_some h
  simp only [beq_iff_eq] at this
  exact this.symm
theorem fileAt_of {fs : List Fl} (hr : fs.Pairwise fun f g => f.num < g.num) {f : Fl} (hf : f ∈ fs) : fileAt fs f.num = some f := by
  induction fs with
  | nil => cases hf
  | cons g r ih =>
    rw [List.pairwise_cons] at hr
    unfold fileAt
    rcases List.mem_cons.1 hf with rfl | h
    · simp
    · have := hr.1 f h
      rw [List.find?_cons_of_neg (by simp; omega)]
      exact ih hr.2 h
theorem Ok.leads {fs : List Fl} {D : DataW Unit} (hr : fs.Pairwise fun f g => f.num < g.num) (hl : Leads fs D) (hc : Canon D) {k : Lit} {c : Int} (hat : ∀ zd, D.atKey k zd = i64L c) : ∃ f, fileAt fs c = some f := by
  obtain ⟨p, hp, _, h2⟩ := entry_of hc hat
  obtain ⟨f, hf, e⟩ := hl p hp
  rw [h2] at e
  have : c = f.num := by simpa [i64L] using e
  exact ⟨f, by rw [this]; exact fileAt_of hr hf⟩
theorem FileIs.cells {w : World} {G : Gh} {f : Fl} (h : FileIs w G f) : ∃ ao cap, w.heap[G.β f.num]? = some (.cells #[.slice ao f.bs.length cap, .int .i64 f.lasts] 109 (0, 0)) ∧
    Own w 0 (.slice ao f.bs.length cap) f.bs ∧ (∀ g, (Value.slice ao f.bs.length cap).ownBlock = some g → G.τ g = 7 + 2 * f.num) ∧ cap ≤ maxLen ∧ Bs w ao f.bs.length cap f.bs := by
  obtain ⟨v, h1, h2, h3⟩ := h.lies
  obtain ⟨ao, cap, rfl, hm, hb, _⟩ := own_bs h2 (range_of h.rng)
  exact ⟨ao, cap, h1, h2, h3, hm, hb⟩
theorem cell_of {w : World} {b i : Nat} {arr : Array Value} {T : TypeId} {fr : Nat × Nat} {v : Value} (h : w.heap[b]? = some (.cells arr T fr)) (hv : arr[i]? = some v) : w.cell? ⟨b, i, none⟩ = some v := by
  simp [World.cell?, h, hv]

set_option maxHeartbeats 400000 in
theorem size_any (R : Nat) (S : St) (G : Gh) (w : World) (h : DiskIs w R S G) (hm : S.calls ≤ 1099511627776) :
    Calls Tryz.prog 52 #[.pointer (some ⟨R, 0, none⟩)] w fun e w' => e = .returned (.int .i64 (usedS S)) ∧ Below w.heap.size w w' := by
  have hcn := hide (h.nm.canon lawS)
  have H := hide h
  obtain ⟨⟨c0, c1, c2, c3, c4⟩, ⟨c5, c6, c7, c8, c9⟩, fr⟩ := h.cells
  clear c0 c1 c2 c3 c4 c5 c6 c8 c9 fr h
  go_enter Tryz.func52, Tryz.ntmps52
  go_wp2_with (first
    | (at_range; refine wpList_range_own _ rfl _ 70 rfl 9 3 lawS Tryz.underlying70 _ G.bn _ _ rfl H.out.nm ?_; intro w0 hrg0 hg0 hs0)
    | go_in)
  have HR := hide hrg0
  have HB := hide ((Below.refl _ w).grown hg0 (Nat.le_refl _) (fun k hk => by cases hk))
  clear hrg0 hg0 hs0 c7
  go_frame
  go_loopw [3] (fun u wr => ∃ (left : Lit → Bool) (cnt : Nat), u = .int .i64 (upto S.files S.names left : Nat) ∧ Hid (wr.ranges Tryz.prog 9 (plainElem Tryz.prog 3) G.bn w.heap.size (Maps.size S.names) S.names left cnt) ∧ Hid (Below w.heap.size w wr)) (fun _ wr => wr.rangeLeft G.bn w.heap.size)
  case atStart => exact ⟨_, _, by rw [upto_start _ _ hcn.out]; rfl, HR, HB⟩
  case round =>
    obtain ⟨left, cnt, rfl, hrg, hbl⟩ := hrel
    go_wp2_with (first
      | (at_next; refine next_si _ rfl _ rfl G.bn w.heap.size _ _ _ _ rfl hrg.out ?_ ?_)
      | fail)
    · intro _ hl0
      have hu := hide (upto_end S left hl0)
      go_wp2
      go_ret
      exact ⟨by rw [hu.out]; rfl, hbl.out⟩
    · intro x c w1 cnt1 hwc hlk hat hrg1 hlt hg1 hs1 hen
      obtain ⟨f, hf⟩ := Ok.leads H.out.ok.rise H.out.ok.named hcn.out hat
      have B1 := hbl.out.grown hg1 hbl.out.size (fun k hk => by cases hk; exact Nat.le_refl _)
      have D1 := H.out.below B1
      have hu := upto_step S.files S.names left (key x) c hcn.out trivial hlk hat
      have hle := upto_le D1 (fun z => left z && !z.sameKey (key x))
      have hfl : flen S.files c = f.bs.length := by unfold flen; rw [hf]
      rw [hfl] at hu
      obtain ⟨ao, cap, hc, _, _, _, _⟩ := (D1.files f (fileAt_mem hf).1).cells
      have cf := cell_of (i := 0) hc rfl
      have c6 := D1.cells.2.1.2.1
      obtain ⟨DD, f1, f2, f3⟩ := D1.fm
      have hlook := look_file G rfl f1 f2 hwc
      rw [hf] at hlook
      simp only [ptrOf] at hlook
      have hmeas := hide (show w1.rangeLeft G.bn w.heap.size < wr.rangeLeft G.bn w.heap.size by rw [hrg1.left_eq, hrg.out.left_eq]; exact hlt)
      have HU := hide hu
      have HR1 := hide hrg1
      have HB1 := hide B1
      have hb1 : upto S.files S.names left + f.bs.length ≤ 274877906944000000 := by omega
      clear hu hrg1 B1 D1 hle hfl hc f1 f2 f3 hs1 hg1 hlt hat hlk hrg hbl hf
      generalize hU : upto S.files S.names left = U at *
      go_wp2
      go_roundw
      case rel => exact ⟨_, cnt1, by rw [HU.out]; go_num, HR1, HB1⟩
      case measure => exact hmeas.out

end Go.Proofs.YtcahlmneancapaaGreatDoor.Clep
