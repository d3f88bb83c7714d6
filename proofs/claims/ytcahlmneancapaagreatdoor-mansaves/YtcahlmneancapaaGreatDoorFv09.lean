/- What of the library this program calls, each with the contract that the library holds: the keys of a map in order, a copy of a map, a copy of a text. No conditions. -/
import Derived.Shelf.SlIter.Nil
import Derived.Shelf.SortM.Plain
import Derived.Shelf.SortM.SortNone
import Derived.Ground.GgzProg
import Derived.Ground.SlgmProg
import Derived.Test.YtcahlmneancapaaGreatDoorProg
import Derived.Test.YtcahlmneancapaaGreatDoorFv08
import Derived.Test.YtcahlmneancapaaGreatDoorFv07
namespace Go.Proofs
open Go.Shelf
def Tryz.keysS_ren : Go.Shelf.Ren := ⟨fun | 7 => 46 | 10 => 90 | n => n, fun | 23 => 70 | 26 => 9 | 3 => 3 | 28 => 102 | 0 => 0 | 27 => 101 | 33 => 105 | 4 => 4 | n => n, fun | n => n⟩
theorem Tryz.keysS : Go.Proofs.SlLaysZ.n7 Tryz.prog Tryz.keysS_ren := {
  mixed := by kernel_rfl
  f7 := ⟨Tryz.f46.name, by decide, Tryz.func46.trans (congrArg some (by kernel_rfl))⟩
  f10 := ⟨Tryz.f90.name, by decide, Tryz.func90.trans (congrArg some (by kernel_rfl))⟩
  t0 := Tryz.underlying0
  a0 := Tryz.isAgg0
  z0 := Tryz.sizeOf0
  v0 := Tryz.zeroValue0
  t4 := Tryz.underlying4
  a4 := Tryz.isAgg4
  z4 := Tryz.sizeOf4
  v4 := Tryz.zeroValue4
  t23 := Tryz.underlying70
  a23 := Tryz.isAgg70
  z23 := Tryz.sizeOf70
  v23 := Tryz.zeroValue70
  t26 := Tryz.underlying9
  a26 := Tryz.isAgg9
  z26 := Tryz.sizeOf9
  v26 := Tryz.zeroValue9
  t27 := Tryz.underlying101
  a27 := Tryz.isAgg101
  z27 := Tryz.sizeOf101
  v27 := Tryz.zeroValue101
  t28 := Tryz.underlying102
  a28 := Tryz.isAgg102
  z28 := Tryz.sizeOf102
  v28 := Tryz.zeroValue102
  t33 := Tryz.underlying105
  a33 := Tryz.isAgg105
  z33 := Tryz.sizeOf105
  v33 := Tryz.zeroValue105 }
def Tryz.sortedS_ren : Go.Shelf.Ren := ⟨fun | 6 => 45 | 8 => 88 | 9 => 89 | 11 => 117 | 13 => 119 | 12 => 118 | 23 => 151 | 24 => 152 | 14 => 142 | 15 => 143 | 16 => 144 | 17 => 145 | 18 => 146 | 19 => 147 | 20 => 148 | 21 => 149 | 22 => 150 | 25 => 178 | 26 => 179 | 27 => 180 | 28 => 181 | 29 => 182 | 30 => 183 | 31 => 205 | n => n, fun | 26 => 9 | 28 => 102 | 24 => 40 | 0 => 0 | 3 => 3 | 37 => 163 | 48 => 82 | 50 => 29 | 4 => 4 | 40 => 209 | 39 => 208 | 45 => 51 | 5 => 5 | 9 => 9 | 51 => 240 | 55 => 156 | 57 => 267 | 58 => 268 | 33 => 105 | n => n, fun | n => n⟩
theorem Tryz.sortedS : Go.Proofs.SlLaysZ.n6 Tryz.prog Tryz.sortedS_ren := {
  mixed := by kernel_rfl
  f6 := ⟨Tryz.f45.name, by decide, Tryz.func45.trans (congrArg some (by kernel_rfl))⟩
  f8 := ⟨Tryz.f88.name, by decide, Tryz.func88.trans (congrArg some (by kernel_rfl))⟩
  f11 := ⟨Tryz.f117.name, by decide, Tryz.func117.trans (congrArg some (by kernel_rfl))⟩
  t0 := Tryz.underlying0
  a0 := Tryz.isAgg0
  z0 := Tryz.sizeOf0
  v0 := Tryz.zeroValue0
  t24 := Tryz.underlying40
  a24 := Tryz.isAgg40
  z24 := Tryz.sizeOf40
  v24 := Tryz.zeroValue40
  t26 := Tryz.underlying9
  a26 := Tryz.isAgg9
  z26 := Tryz.sizeOf9
  v26 := Tryz.zeroValue9
  t28 := Tryz.underlying102
  a28 := Tryz.isAgg102
  z28 := Tryz.sizeOf102
  v28 := Tryz.zeroValue102
  i26 := by kernel_rfl }
def Tryz.sortS_ren : Go.Shelf.Ren := ⟨fun | 6 => 89 | 8 => 119 | 9 => 118 | 19 => 151 | 20 => 152 | 21 => 142 | 22 => 143 | 23 => 144 | 24 => 145 | 25 => 146 | 26 => 147 | 27 => 148 | 28 => 149 | 29 => 150 | 36 => 178 | 31 => 179 | 32 => 180 | 37 => 181 | 38 => 182 | 39 => 183 | 41 => 205 | n => n, fun | 27 => 40 | 29 => 9 | 3 => 3 | 32 => 163 | 26 => 40 | 0 => 0 | 44 => 82 | 46 => 29 | 4 => 4 | 36 => 209 | 35 => 208 | 41 => 51 | 5 => 5 | 9 => 9 | 53 => 240 | 57 => 156 | 63 => 267 | 64 => 268 | n => n, fun | n => n⟩
theorem Tryz.sortS : Go.Proofs.SlLaysM.n6 Tryz.prog Tryz.sortS_ren := {
  mixed := by kernel_rfl
  f6 := ⟨Tryz.f89.name, by decide, Tryz.func89.trans (congrArg some (by kernel_rfl))⟩
  f8 := Tryz.func119.trans (congrArg some (by kernel_rfl))
  f9 := ⟨Tryz.f118.name, by decide, Tryz.func118.trans (congrArg some (by kernel_rfl))⟩
  f19 := Tryz.func151.trans (congrArg some (by kernel_rfl))
  f20 := Tryz.func152.trans (congrArg some (by kernel_rfl))
  f21 := ⟨Tryz.f142.name, by decide, Tryz.func142.trans (congrArg some (by kernel_rfl))⟩
  f22 := ⟨Tryz.f143.name, by decide, Tryz.func143.trans (congrArg some (by kernel_rfl))⟩
  f23 := ⟨Tryz.f144.name, by decide, Tryz.func144.trans (congrArg some (by kernel_rfl))⟩
  f24 := ⟨Tryz.f145.name, by decide, Tryz.func145.trans (congrArg some (by kernel_rfl))⟩
  f25 := ⟨Tryz.f146.name, by decide, Tryz.func146.trans (congrArg some (by kernel_rfl))⟩
  f26 := ⟨Tryz.f147.name, by decide, Tryz.func147.trans (congrArg some (by kernel_rfl))⟩
  f27 := ⟨Tryz.f148.name, by decide, Tryz.func148.trans (congrArg some (by kernel_rfl))⟩
  f28 := ⟨Tryz.f149.name, by decide, Tryz.func149.trans (congrArg some (by kernel_rfl))⟩
  f29 := ⟨Tryz.f150.name, by decide, Tryz.func150.trans (congrArg some (by kernel_rfl))⟩
  f31 := Tryz.func179.trans (congrArg some (by kernel_rfl))
  f32 := Tryz.func180.trans (congrArg some (by kernel_rfl))
  f36 := ⟨Tryz.f178.name, by decide, Tryz.func178.trans (congrArg some (by kernel_rfl))⟩
  f37 := ⟨Tryz.f181.name, by decide, Tryz.func181.trans (congrArg some (by kernel_rfl))⟩
  f38 := ⟨Tryz.f182.name, by decide, Tryz.func182.trans (congrArg some (by kernel_rfl))⟩
  f39 := ⟨Tryz.f183.name, by decide, Tryz.func183.trans (congrArg some (by kernel_rfl))⟩
  f41 := ⟨Tryz.f205.name, by decide, Tryz.func205.trans (congrArg some (by kernel_rfl))⟩
  t0 := Tryz.underlying0
  a0 := Tryz.isAgg0
  z0 := Tryz.sizeOf0
  v0 := Tryz.zeroValue0
  t3 := Tryz.underlying3
  a3 := Tryz.isAgg3
  z3 := Tryz.sizeOf3
  v3 := Tryz.zeroValue3
  t4 := Tryz.underlying4
  a4 := Tryz.isAgg4
  z4 := Tryz.sizeOf4
  v4 := Tryz.zeroValue4
  t5 := Tryz.underlying5
  a5 := Tryz.isAgg5
  z5 := Tryz.sizeOf5
  v5 := Tryz.zeroValue5
  t9 := Tryz.underlying9
  a9 := Tryz.isAgg9
  z9 := Tryz.sizeOf9
  v9 := Tryz.zeroValue9
  t26 := Tryz.underlying40
  a26 := Tryz.isAgg40
  z26 := Tryz.sizeOf40
  v26 := Tryz.zeroValue40
  t27 := Tryz.underlying40
  a27 := Tryz.isAgg40
  z27 := Tryz.sizeOf40
  v27 := Tryz.zeroValue40
  t29 := Tryz.underlying9
  a29 := Tryz.isAgg9
  z29 := Tryz.sizeOf9
  v29 := Tryz.zeroValue9
  t32 := Tryz.underlying163
  a32 := Tryz.isAgg163
  z32 := Tryz.sizeOf163
  v32 := Tryz.zeroValue163
  t35 := Tryz.underlying208
  a35 := Tryz.isAgg208
  z35 := Tryz.sizeOf208
  v35 := Tryz.zeroValue208
  t36 := Tryz.underlying209
  a36 := Tryz.isAgg209
  z36 := Tryz.sizeOf209
  v36 := Tryz.zeroValue209
  t41 := Tryz.underlying51
  a41 := Tryz.isAgg51
  z41 := Tryz.sizeOf51
  v41 := Tryz.zeroValue51
  t44 := Tryz.underlying82
  a44 := Tryz.isAgg82
  z44 := Tryz.sizeOf82
  v44 := Tryz.zeroValue82
  t46 := Tryz.underlying29
  a46 := Tryz.isAgg29
  z46 := Tryz.sizeOf29
  v46 := Tryz.zeroValue29
  t53 := Tryz.underlying240
  a53 := Tryz.isAgg240
  z53 := Tryz.sizeOf240
  v53 := Tryz.zeroValue240
  t57 := Tryz.underlying156
  a57 := Tryz.isAgg156
  z57 := Tryz.sizeOf156
  v57 := Tryz.zeroValue156
  t63 := Tryz.underlying267
  a63 := Tryz.isAgg267
  z63 := Tryz.sizeOf267
  v63 := Tryz.zeroValue267
  t64 := Tryz.underlying268
  a64 := Tryz.isAgg268
  z64 := Tryz.sizeOf268
  v64 := Tryz.zeroValue268 }
end Go.Proofs

/- What List of a Disk does when called (a walk over the translated program): for any Disk of at most 2^40 calls: its names, by bytes. -/
namespace Go.Proofs.YtcahlmneancapaaGreatDoor.Clep
open Go.RowKit Go.Maps Go.Sort Go.Shelf
set_option linter.unusedVariables false
set_option maxRecDepth 10000

theorem keysS_any (b : Nat) (w : World) : Calls Tryz.prog 46 #[.map (some b)] w fun e w' => e = .returned (.func (.func 90) #[] #[.pointer (some ⟨w.heap.size, 0, none⟩)]) ∧ w' = w.alloc (.cells #[.map (some b)] 70) :=
  (callsIn_wide (n := 5)).1 (AnyZ.keys_in Tryz.keysS Fence.wide 5 trivial rfl (some b) w)
theorem sortsS (m : Nat) : AnyZ.SortsIn Tryz.prog Tryz.sortedS_ren Fence.wide m :=
  ⟨fun blk off cap ss W hH hblk hsz => callsIn_wide.2 (AnyM.slices_Sort_string Tryz.sortS blk off cap ss W hH hblk hsz),
   fun p cap W => callsIn_wide.2 (AnyM.slices_Sort_string_none Tryz.sortS p cap W)⟩
set_option maxHeartbeats 1000000 in
theorem sortedS_any (b nn : Nat) (D : DataW Unit) (w : World) (hown : w.ownsMap Tryz.prog 9 (plainElem Tryz.prog 3) b nn D) (hmax : Maps.size D ≤ maxLen) (hbytes : Maps.size D * 16 ≤ 140737488355328) :
    Calls Tryz.prog 45 #[.func (.func 90) #[] #[.pointer (some ⟨w.heap.size, 0, none⟩)]] (w.alloc (.cells #[.map (some b)] 70)) fun e w' => ∃ (v : Value) (ss : List (List UInt8)), e = .returned v ∧ ss.Perm (strKeys D) ∧
      w'.ownsRow (w.heap.size + 1) 9 1 v ss.length ((ss.mergeSort leB).map encStr) ∧ Below (w.heap.size + 1) (w.alloc (.cells #[.map (some b)] 70)) w' := by
  have hbl := hown.lt
  have hseq : SeqGives Fence.wide 2 Tryz.prog 90 #[.pointer (some ⟨w.heap.size, 0, none⟩)] encStr (fun ss => ss.Perm (strKeys D)) (Maps.size D) (w.alloc (.cells #[.map (some b)] 70)) :=
    AnyZ.keys_gives (ρ := Tryz.keysS_ren) { Tryz.keysS with } Fence.wide _ trivial rfl (by omega) w.heap.size b nn D _ (by simp) (by simp) (by
      obtain ⟨es, clock, hb, Ft, hs, hD⟩ := hown
      exact ⟨es, clock, (Below.heap_alloc _ _ b hbl).trans hb, Ft, hs, hD⟩)
  have cS := AnyZ.sorted_in Tryz.sortedS Fence.wide 5 trivial trivial trivial trivial rfl (by omega) (sortsS _) (enters_of Tryz.func89 (by kernel_rfl) rfl) 90 #[.pointer (some ⟨w.heap.size, 0, none⟩)] trivial (enters_of Tryz.func90 (by kernel_rfl) rfl) _ _ hmax hbytes _ hseq
  change CallsIn _ _ Tryz.prog 45 _ _ _ at cS
  refine ((callsIn_wide (n := 5)).1 cS).mono ?_
  rintro e w' ⟨v, ss, rfl, hS, hrow, hnil, hb⟩
  have hsz : (w.alloc (.cells #[.map (some b)] 70)).heap.size = w.heap.size + 1 := by simp
  rw [hsz] at hrow hb
  exact ⟨v, ss, rfl, hS, hrow, hb⟩

def namesL (S : St) : List (List UInt8) := (strKeys S.names).mergeSort leB
theorem row_below {w w' : World} {B e sz n : Nat} {v : Value} {xs : List Value} (h : w.ownsRow B e sz v n xs) (hb : Below w.heap.size w w') : w'.ownsRow B e sz v n xs :=
  owns_keep (τ := fun _ => 0) (t := fun _ => False) (Turn.of_below hb _) h (fun _ _ h => h)
theorem row_base {w : World} {B C e sz n : Nat} {v : Value} {xs : List Value} (h : w.ownsRow B e sz v n xs) (hc : C ≤ B) : w.ownsRow C e sz v n xs := by
  obtain ⟨hl, ⟨rfl, hn⟩ | ⟨g, cap, cur, rfl, hg, r⟩⟩ := h
  · exact ⟨hl, .inl ⟨rfl, hn⟩⟩
  · exact ⟨hl, .inr ⟨g, cap, cur, rfl, Nat.le_trans hc hg, r⟩⟩
set_option maxHeartbeats 400000 in
theorem list_h {F : Nat → Prop} {R : Nat} {S : St} {w : World} (h : Held F w R S) (hd : S.dead = false) (hm : S.calls ≤ 1099511627776) (hL : ∀ l ∈ namesL S, l.length ≤ 70368744177664) :
    Calls Tryz.prog 16 #[.pointer (some ⟨R, 0, none⟩)] w fun e w' => ∃ so sc, e = .returned (.slice so (namesL S).length sc) ∧ w'.ownsRow w.heap.size 9 1 (.slice so (namesL S).length sc) (namesL S).length ((namesL S).map encStr) ∧ Held F w' R S ∧ Below w.heap.size w w' := by
  have HH := hide h
  obtain ⟨G, D, hF⟩ := h
  have c4 := D.cells.1.2.2.2.2
  rw [hd] at c4
  have c7 := D.cells.2.1.2.2.1
  have hsz := D.ok.szn
  have SO := hide (sortedS_any G.bn _ S.names w D.nm (by unfold maxLen; omega) (by omega))
  have HL := hide hL
  clear D hF hL
  go_enter Tryz.func16, Tryz.ntmps16
  go_wp2_with fail
  refine (keysS_any _ _).mono ?_
  rintro e w1 ⟨rfl, rfl⟩
  go_wp2_with fail
  refine SO.out.mono ?_
  rintro e w2 ⟨v, ss, rfl, hS, hrow, hb2⟩
  have hms : ss.mergeSort leB = namesL S := mergeSort_of_perm hS
  have hln : ss.length = (namesL S).length := by rw [← hms]; exact (List.length_mergeSort ss).symm
  rw [hms, hln] at hrow
  obtain ⟨so, sc, rfl, hsc, hcell⟩ := row_slice hrow
  have HR := hide (row_base hrow (Nat.le_succ _))
  have HB := hide (((Below.refl w.heap.size w).alloc (Nat.le_refl _) (.cells #[.map (some G.bn)] 70)).trans (hb2.mono (Nat.le_succ _)))
  have hlm : (namesL S).length ≤ 1099511627776 := by
    have := hS.length_eq
    rw [hln] at this
    have h2 : (strKeys S.names).length = Maps.size S.names := by
      cases S.names <;> simp [strKeys, Maps.size]
    omega
  clear hrow hb2 hS hms hln SO hcell c4 c7
  generalize hNL : namesL S = NL at *
  have hNL' := hide hNL
  clear hNL
  go_wp2_with fail
  go_loopw [18] (fun i wr => ∃ k : Nat, i = .int .i64 k ∧ k ≤ NL.length ∧ Hid (wr.ownsRow w.heap.size 9 1 (.slice so NL.length sc) NL.length (NL.map encStr)) ∧ Hid (Below w.heap.size w wr)) (fun i _ => NL.length - (intOf i).toNat)
  case atStart => exact ⟨0, rfl, by omega, HR, HB⟩
  case round =>
    obtain ⟨k, rfl, hk, hown, hbel⟩ := hrel
    by_cases hlt : k < NL.length
    · obtain ⟨so', sc', e', hsc', hcell⟩ := row_slice hown.out
      injection e' with e1 e2 e3
      subst e1 e3
      obtain ⟨g, rfl, hgc⟩ := hcell (by omega)
      have hck : wr.cell? ⟨g, k, none⟩ = some (encStr NL[k]) := hgc k _ (by simp [hlt])
      have hfr := hown.out.frozenAt k
      have hgl : g < wr.heap.size := World.block_lt_of_cell? wr _ hck
      have CL := hide (strClone_any ⟨NL[k].toArray⟩ wr (by have := HL.out _ (List.getElem_mem hlt); simpa [ByteArray.size] using this))
      simp only [encStr] at hck
      have HX := hide (show (NL.map encStr).set k (encStr NL[k]) = NL.map encStr by
        rw [show encStr NL[k] = (NL.map encStr)[k]'(by simpa using hlt) from by simp, List.set_getElem_self])
      have HG := hide (show w.heap.size ≤ g from (World.ownsRow.lt hown.out g rfl).1)
      generalize hsk : (⟨NL[k].toArray⟩ : ByteArray) = sk at *
      have HSK := hide hsk
      clear hsk hgc
      go_wp2_with fail
      refine CL.out.mono ?_
      rintro e w4 ⟨rfl, hb4⟩
      have hown4 := row_below hown.out hb4
      have hck4 : w4.cell? ⟨g, k, none⟩ = some (.string sk) := (hb4.cell (p := ⟨g, k, none⟩) hgl).trans hck
      have hfr4 := hown4.frozenAt k
      have HS := hide (hown4.stored k (.string sk))
      have HB4 := hide (hbel.out.trans (hb4.mono hbel.out.size))
      clear hb4 hown4 CL hck hfr
      go_wp2
      go_roundw
      case rel =>
        refine ⟨k + 1, by go_num, by omega, hide ?_, hide (HB4.out.setCell (p := ⟨g, k, none⟩) HG.out _)⟩
        have := HS.out.1
        rw [← HSK.out] at this
        rw [show (Value.string ⟨NL[k].toArray⟩) = encStr NL[k] from rfl, HX.out] at this
        rw [← HSK.out]
        exact this
      case measure => simp [intOf]; omega
    · have h8 : k = NL.length := by omega
      subst h8
      have HE := hide (HH.out.same hbel.out).1
      go_wp2
      go_ret
      rw [hNL'.out]
      exact ⟨so, sc, rfl, hown.out, HE.out, hbel.out⟩

end Go.Proofs.YtcahlmneancapaaGreatDoor.Clep

/- What Remove of a Disk does when called (a walk over the translated program): for any Disk of fewer than 2^40 calls, any name of at most 2^46 bytes. -/
namespace Go.Proofs.YtcahlmneancapaaGreatDoor.Clep
open Go.RowKit Go.Maps
set_option linter.unusedVariables false
set_option maxRecDepth 10000

def rmvS (S : St) (a : ByteArray) : Nat × St :=
  if okName a = false then (10, S)
  else if (beginS S).1 ≠ 0 then beginS S
  else if (fileAt (beginS S).2.files (lk (beginS S).2.names a)).isNone then (11, (beginS S).2)
  else (0, { (beginS S).2 with names := doS (beginS S).2.names ⟨2, a, ⟨#[]⟩, 0⟩, since := (beginS S).2.since ++ [⟨2, a, ⟨#[]⟩, 0⟩] })
set_option maxHeartbeats 400000 in
set_option maxRecDepth 4000 in
theorem remove_any (R : Nat) (S : St) (G : Gh) (a : ByteArray) (w : World) (h : DiskIs w R S G) (hm : S.calls < 1099511627776) (ha : a.size ≤ 70368744177664) :
    Calls Tryz.prog 20 #[.pointer (some ⟨R, 0, none⟩), .string a] w fun e w' => e = .returned (.int .i64 (rmvS S a).1) ∧ ∃ G', DiskIs w' R (rmvS S a).2 G' ∧ Kept G G' w w' := by
  have H := hide h
  have BA := (Below.refl w.heap.size w).alloc (Nat.le_refl _) (.cells #[.string a] 9)
  have BG := hide (begin_any R S G (some ⟨w.heap.size, 0, none⟩) [a] _ (h.below BA) (by omega) (by simp) (txts_one w a) (by simpa using ha))
  have HA := hide BA
  clear h BA
  go_enter Tryz.func20, Tryz.ntmps20
  go_wp2_with fail
  refine BG.out.mono ?_
  clear BG
  generalize w.alloc (.cells #[.string a] 9) = wA at *
  rintro e w1 (⟨hno, rfl, rfl⟩ | ⟨hyes, rfl, D1, K1⟩)
  · have hc : rmvS S a = (10, S) := by
      unfold rmvS; rw [if_pos]
      simpa using hno
    have HC := hide hc
    clear hc
    go_wp2
    go_ret
    exact ⟨by rw [HC.out]; rfl, by rw [HC.out]; exact ⟨G, H.out.below HA.out, Kept.of_below HA.out⟩⟩
  · have hk := begin_keeps S
    have hy : okName a = true := by simpa using hyes
    obtain ⟨e1, S1, hb'⟩ : ∃ e1 S1, beginS S = (e1, S1) := ⟨_, _, rfl⟩
    have hc0 : rmvS S a = if e1 ≠ 0 then (e1, S1) else if (fileAt S1.files (lk S1.names a)).isNone then (11, S1) else (0, { S1 with names := doS S1.names ⟨2, a, ⟨#[]⟩, 0⟩, since := S1.since ++ [⟨2, a, ⟨#[]⟩, 0⟩] }) := by
      unfold rmvS; rw [if_neg (by rw [hy]; simp), hb']
    have HC := hide hc0
    have KK := hide ((Kept.of_below (G := G) HA.out).trans K1)
    rw [hb'] at D1 hk ⊢
    have HD := hide D1
    have HK := hide hk
    clear hc0 K1 D1 hk hyes hb'
    simp only at HD HK ⊢
    by_cases he : e1 = 0
    · subst he
      have hF := hide (find_disk R S1 G a w1 HD.out ha)
      go_wp2_with fail
      refine hF.out.mono ?_
      rintro e w2 ⟨rfl, b2⟩
      have HD2 := hide (HD.out.below b2)
      have KK2 := hide (KK.out.trans (Kept.of_below b2))
      clear b2 hF KK HD
      cases hf : fileAt S1.files (lk S1.names a) with
      | none =>
        have HC2 := hide (show rmvS S a = (11, S1) by rw [HC.out, hf]; rfl)
        simp only [ptrOf]
        go_wp2
        go_ret
        exact ⟨by rw [HC2.out]; rfl, by rw [HC2.out]; exact ⟨G, HD2.out, KK2.out⟩⟩
      | some f =>
        simp only [ptrOf]
        have HC2 := hide (show rmvS S a = (0, { S1 with names := doS S1.names ⟨2, a, ⟨#[]⟩, 0⟩, since := S1.since ++ [⟨2, a, ⟨#[]⟩, 0⟩] }) by rw [HC.out, hf]; simp)
        have hcl : S1.calls ≤ 1099511627776 := by have := HK.out.1; omega
        have CH : Calls Tryz.prog 51 #[.pointer (some ⟨R, 0, none⟩), .agg #[.int .i64 2, .string a, .string ⟨#[]⟩, .int .i64 0]] w2 _ :=
          change_any R _ G ⟨2, a, ⟨#[]⟩, 0⟩ w2 HD2.out hcl (okName_le hy).2 (Nat.zero_le _) (by show 2 ≤ 2; omega) (Nat.zero_le _) (ok_change HK.out H.out.ok HD2.out.ok (okName_le hy).2 (Nat.zero_le _) (.inr rfl) (Nat.zero_le _) (size_do (HD2.out.nm.tidy lawS) _))
        have HCH := hide CH
        clear CH
        go_wp2_with fail
        refine HCH.out.mono ?_
        rintro e w3 ⟨rfl, G3, D3, K3⟩
        have HD3 := hide D3
        have HK3 := hide (KK2.out.trans K3)
        clear D3 K3
        go_wp2
        go_ret
        exact ⟨by rw [HC2.out]; rfl, by rw [HC2.out]; exact ⟨G3, HD3.out, HK3.out⟩⟩
    · have HC2 := hide (show rmvS S a = (e1, S1) by rw [HC.out, if_pos he])
      have hne : ¬ ((e1 : Int) = 0) := by omega
      go_wp2
      go_ret
      exact ⟨by rw [HC2.out]; rfl, by rw [HC2.out]; exact ⟨G, HD.out, KK.out⟩⟩

theorem remove_h {F : Nat → Prop} {R : Nat} {S : St} {w : World} (a : ByteArray) {E : Nat} {S' : St} (e : rmvS S a = (E, S')) (h : Held F w R S) (hm : S.calls < 1099511627776) (ha : a.size ≤ 70368744177664) :
    Calls Tryz.prog 20 #[.pointer (some ⟨R, 0, none⟩), .string a] w fun e w' => e = .returned (.int .i64 E) ∧ Held F w' R S' ∧ Same F w w' := by
  obtain ⟨G, D, hF⟩ := h
  refine (remove_any R S G a w D hm ha).mono ?_
  rw [e]
  rintro e w' ⟨rfl, G', D', K⟩
  exact ⟨rfl, Held.keep hF D' K⟩

end Go.Proofs.YtcahlmneancapaaGreatDoor.Clep

/- What Stop, Fail and Dead of a Disk do when called (walks over the translated program): for numbers of at most 2^40, any Disk. -/
namespace Go.Proofs.YtcahlmneancapaaGreatDoor.Clep
open Go.RowKit Go.Maps
set_option linter.unusedVariables false
set_option maxRecDepth 10000

theorem dead_h {F : Nat → Prop} {R : Nat} {S : St} {w : World} (h : Held F w R S) :
    Calls Tryz.prog 33 #[.pointer (some ⟨R, 0, none⟩)] w fun e w' => e = .returned (.bool S.dead) ∧ w' = w := by
  obtain ⟨G, D, hF⟩ := h
  have c4 := D.cells.1.2.2.2.2
  clear D hF
  go_enter Tryz.func33, Tryz.ntmps33
  go_wp2
  go_ret
  exact ⟨rfl, rfl⟩
theorem fail_h {F : Nat → Prop} {R : Nat} {S : St} {w : World} (n : Nat) (hn : n ≤ 1099511627776) (h : Held F w R S) :
    Calls Tryz.prog 34 #[.pointer (some ⟨R, 0, none⟩), .int .i64 n] w fun e w' => e = .returned (.tuple #[]) ∧ Held F w' R { S with fail := n } ∧ Same F w w' := by
  obtain ⟨G, D, hF⟩ := h
  have c3 := D.cells.1.2.2.2.1
  have f3 := D.cells.2.2 3
  have D2 := D.put (S' := { S with fail := n }) 3 (.int .i64 n) rfl rfl rfl rfl rfl (Nat.le_refl _) (D.ok.scal _ _ _ _ (Nat.le_refl _) D.ok.stp (by omega))
  have HE := hide (Held.keep hF D2 (kept_set (G := G) (b := R) 3 (.int .i64 n) (by rw [D.tR]; omega)))
  have hqz : ¬ ((n : Int) < 0) := by omega
  have hmx : max (n : Int) 0 = n := by omega
  clear D D2 hF
  go_enter Tryz.func34, Tryz.ntmps34
  go_wp2
  go_end0
  exact ⟨rfl, HE.out⟩
theorem stop_h {F : Nat → Prop} {R : Nat} {S : St} {w : World} (n : Nat) (hn : n ≤ 1099511627776) (hd : S.dead = false) (h : Held F w R S) :
    Calls Tryz.prog 32 #[.pointer (some ⟨R, 0, none⟩), .int .i64 n] w fun e w' => e = .returned (.tuple #[]) ∧ Held F w' R { S with stop := n, dead := decide (n = 0) } ∧ Same F w w' := by
  obtain ⟨G, D, hF⟩ := h
  have c2 := D.cells.1.2.2.1
  have f2 := D.cells.2.2 2
  have hok := D.ok
  by_cases h0 : n = 0
  · subst h0
    have D2 := D.put (S' := { S with stop := 0 }) 2 (.int .i64 0) rfl rfl rfl rfl rfl (Nat.le_refl _) (D.ok.scal _ _ _ _ (Nat.le_refl _) (by omega) D.ok.fai)
    have K2 := kept_set (G := G) (w := w) (b := R) 2 (.int .i64 0) (by rw [D.tR]; omega)
    have k4 := D2.cells.1.2.2.2.2
    have g4 := D2.cells.2.2 4
    have D3 := D2.put (S' := { S with stop := 0, dead := true }) 4 (.bool true) rfl rfl rfl rfl rfl (Nat.le_refl _) (hok.scal _ _ _ _ (Nat.le_refl _) (by omega) hok.fai)
    have HE := hide (Held.keep hF D3 (K2.trans (kept_set (G := G) (b := R) 4 (.bool true) (by rw [D.tR]; omega))))
    clear D D2 D3 K2 hF hok
    go_enter Tryz.func32, Tryz.ntmps32
    go_wp2
    go_end0
    exact ⟨rfl, HE.out⟩
  · have D2 := D.put (S' := { S with stop := n }) 2 (.int .i64 n) rfl rfl rfl rfl rfl (Nat.le_refl _) (D.ok.scal _ _ _ _ (Nat.le_refl _) (by omega) D.ok.fai)
    have K2 := kept_set (G := G) (w := w) (b := R) 2 (.int .i64 n) (by rw [D.tR]; omega)
    have hqz : ¬ ((n : Int) < 0) := by omega
    have hmx : max (n : Int) 0 = n := by omega
    have HE := hide (Held.keep hF D2 K2)
    have h0' : ¬ ((n : Int) = 0) := by omega
    have HS := hide (show ({ S with stop := n, dead := false } : St) = { S with stop := n } by rw [← hd])
    clear D D2 K2 hF hok
    go_enter Tryz.func32, Tryz.ntmps32
    go_wp2
    go_end0
    rw [HS.out]
    exact ⟨rfl, HE.out⟩

def apB (b : Nat × St) (s : ByteArray) (zs : List Int) : Nat × St := if b.1 ≠ 0 then b else match fileAt b.2.files (lk b.2.names s) with
    | none => (11, b.2)
    | some f => if 250000 < f.bs.length + zs.length then (2, b.2)
      else if b.2.q < usedS b.2 + zs.length then (15, b.2)
      else (0, { b.2 with files := updF b.2.files f.num (growF zs) })
theorem appendS_eq (S : St) (s : ByteArray) (zs : List Int) (h : okName s = true) : appendS S s zs = apB (beginS S) s zs := by
  unfold appendS
  rw [if_neg (by rw [h]; simp)]
  rfl
def sts (n f k : Nat) (X : List Int) : St := ⟨1048576, 2 + k, n - k, f - min k n, decide (n ≤ k), 1, [⟨1, X, 0⟩], .map [(nF, i64L 1)], .map [(nF, i64L 1)], []⟩
def stW (n f k : Nat) : Nat := if n < k + 1 then 50 else if k + 1 = f then 15 else 0
theorem stops1 : syncDirS (ls1 1 []) = (0, lsg 2 [] 0) := by kernel_rfl
theorem stops2 (n f : Nat) : ({ ({ (lsg 2 [] 0) with stop := n, dead := decide (n = 0) } : St) with fail := f } : St) = sts n f 0 [] := by
  unfold sts lsg
  simp
theorem stops_begin (n f k : Nat) (X : List Int) (h : k < n) : beginS (sts n f k X) = (if f = k + 1 then 15 else 0, sts n f (k + 1) X) := by
  unfold beginS
  rw [if_neg (by show ¬ (decide (n ≤ k) = true); simp; omega)]
  have e1 : (if (sts n f k X).fail = 1 then 15 else 0) = (if f = k + 1 then 15 else 0) := by
    show (if f - min k n = 1 then 15 else 0) = _
    rw [show min k n = k from by omega]
    by_cases hf : f = k + 1
    · rw [if_pos hf, if_pos (by omega)]
    · rw [if_neg hf, if_neg (by omega)]
  rw [e1]
  congr 1
  unfold sts
  simp only
  have a1 : 2 + k + 1 = 2 + (k + 1) := by omega
  have a2 : n - k - 1 = n - (k + 1) := by omega
  have a3 : f - min k n - 1 = f - min (k + 1) n := by omega
  have a4 : decide (n - k = 1) = decide (n ≤ k + 1) := by rw [Bool.eq_iff_iff]; simp; omega
  rw [a1, a2, a3, a4]
theorem stops3 (n f k : Nat) (X p : List Int) (hX : X.length + p.length ≤ 250000) : appendS (sts n f k X) bF p = (stW n f k, sts n f (k + 1) (if stW n f k = 0 then X ++ p else X)) := by
  by_cases h : n ≤ k
  · have hb : beginS (sts n f k X) = (50, sts n f (k + 1) X) := by
      unfold beginS
      rw [if_pos (by show decide (n ≤ k) = true; simpa using h)]
      congr 1
      unfold sts
      simp only
      have a1 : 2 + k + 1 = 2 + (k + 1) := by omega
      have a2 : n - k = n - (k + 1) := by omega
      have a3 : min k n = min (k + 1) n := by omega
      have a4 : decide (n ≤ k) = decide (n ≤ k + 1) := by rw [Bool.eq_iff_iff]; simp; omega
      rw [a1, a2, a3, a4]
    have hw : stW n f k = 50 := by unfold stW; rw [if_pos (by omega)]
    rw [appendS_eq _ _ _ (by decide), hb, hw, if_neg (show ¬ (50 = 0) by omega)]
    rfl
  · have hb := stops_begin n f k X (by omega)
    rw [appendS_eq _ _ _ (by decide), hb]
    by_cases hf : f = k + 1
    · have hw : stW n f k = 15 := by unfold stW; rw [if_neg (by omega), if_pos hf.symm]
      rw [if_pos hf, hw, if_neg (show ¬ (15 = 0) by omega)]
      rfl
    · have hw : stW n f k = 0 := by unfold stW; rw [if_neg (by omega), if_neg (fun e => hf e.symm)]
      rw [if_neg hf, hw, if_pos rfl]
      have e : apB (0, sts n f (k + 1) X) bF p = if 250000 < X.length + p.length then (2, sts n f (k + 1) X) else if 1048576 < X.length + 0 + p.length then (15, sts n f (k + 1) X) else (0, sts n f (k + 1) (X ++ p)) := by kernel_rfl
      rw [e, if_neg (by omega), if_neg (by omega)]
theorem stops4 (n f k : Nat) (X : List Int) : crashS (sts n f k X) [] = lsg (2 + k) X X.length := by
  have e : crashS (sts n f k X) [] = lsg (2 + k) (X.take (0 + keepN ⟨1, X, 0⟩ [])) (0 + keepN ⟨1, X, 0⟩ []) := by kernel_rfl
  have hk : keepN ⟨1, X, 0⟩ [] = X.length := by
    unfold keepN
    simp only
    split <;> omega
  rw [e, hk, Nat.zero_add, List.take_length]

end Go.Proofs.YtcahlmneancapaaGreatDoor.Clep

/- The names of a manifest and its files, as functions; which of them a loss of power may leave. No conditions. -/
namespace Go.Proofs.YtcahlmneancapaaGreatDoor.Clep
open Go.RowKit Go.Maps Go.Sort
set_option linter.unusedVariables false
set_option maxRecDepth 10000

/-- What a change of names makes of them. -/
def doN (N : ByteArray → Int) (c : Chn) (s : ByteArray) : Int :=
  if c.kind = 0 then (if s = c.name then (c.file : Int) else N s)
  else if c.kind = 1 then (if N c.name = 0 then N s else if s = c.to then N c.name else if s = c.name then 0 else N s)
  else if c.kind = 2 then (if s = c.name then 0 else N s) else N s
theorem key_inj {s t : ByteArray} (h : key s = key t) : s = t := by
  unfold key at h
  injection h with h
  cases s with | mk a => cases t with | mk b => exact congrArg ByteArray.mk (Array.toList_inj.1 h)
theorem key_is (s : ByteArray) : WideAt.IsKeyLit (key s) := by unfold key; trivial
/-- A map of names: whatever is there leads somewhere. -/
structure HL (D : DataW Unit) : Prop where
  tidy : Tidy D
  has : ∀ s, Maps.has D (key s) = true ↔ lk D s ≠ 0
  keys : ∀ p ∈ entries D, ∃ s, p.1 = key s
theorem HL.map {D : DataW Unit} (h : HL D) : IsMap D := h.tidy.isMap
theorem hl_empty : HL (.map []) := ⟨tidy_empty, fun s => by simp [Maps.has, lk, DataW.atKey, numOf, i64L], fun p hp => by simp [entries] at hp⟩
theorem lk_put (D : DataW Unit) (hD : IsMap D) (s t : ByteArray) (n : Int) : lk (D.put (key s) (i64L n)) t = if t = s then n else lk D t := by
  unfold lk
  by_cases h : t = s
  · rw [if_pos h, h, atKey_put_same hD (key_is s)]; rfl
  · rw [if_neg h, atKey_put_other (fun e => h (key_inj e))]
theorem lk_del (D : DataW Unit) (s t : ByteArray) : lk (D.del (key s)) t = if t = s then 0 else lk D t := by
  unfold lk
  by_cases h : t = s
  · rw [if_pos h, h, atKey_del_same]; rfl
  · rw [if_neg h, atKey_del_other (fun e => h (key_inj e))]
theorem HL.put {D : DataW Unit} (h : HL D) (s : ByteArray) (n : Int) (hn : n ≠ 0) : HL (D.put (key s) (i64L n)) := by
  refine ⟨h.tidy.put (key_is s) _, fun t => ?_, fun p hp => ?_⟩
  · rw [lk_put D h.map]
    by_cases e : t = s
    · rw [if_pos e, e, has_put_same h.map (key_is s)]; simp [hn]
    · rw [if_neg e, has_put_other (fun x => e (key_inj x))]; exact h.has t
  · rcases entries_put hp with rfl | hp
    · exact ⟨s, rfl⟩
    · exact h.keys p hp
theorem HL.del {D : DataW Unit} (h : HL D) (s : ByteArray) : HL (D.del (key s)) := by
  refine ⟨h.tidy.del _, fun t => ?_, fun p hp => h.keys p (entries_del hp)⟩
  rw [lk_del]
  by_cases e : t = s
  · rw [if_pos e, e, has_del_same]; simp
  · rw [if_neg e, has_del_other (fun x => e (key_inj x))]; exact h.has t
theorem HL.step {D : DataW Unit} (h : HL D) (c : Chn) (hc : c.kind = 0 → 1 ≤ c.file) : HL (doS D c) ∧ lk (doS D c) = doN (lk D) c := by
  unfold doS doN
  by_cases h0 : c.kind = 0
  · have := hc h0
    rw [if_pos h0]
    refine ⟨h.put _ _ (by omega), funext fun s => ?_⟩
    rw [if_pos h0, lk_put D h.map]
  · rw [if_neg h0]
    by_cases h1 : c.kind = 1
    · rw [if_pos h1]
      by_cases hh : Maps.has D (key c.name) = true
      · have hne := (h.has c.name).1 hh
        rw [if_pos hh]
        refine ⟨(h.del _).put _ _ hne, funext fun s => ?_⟩
        rw [if_neg h0, if_pos h1, if_neg hne, lk_put _ (h.del _).map, lk_del]
      · have he : lk D c.name = 0 := Classical.byContradiction fun e => hh ((h.has c.name).2 e)
        rw [if_neg hh]
        refine ⟨h, funext fun s => ?_⟩
        rw [if_neg h0, if_pos h1, if_pos he]
    · rw [if_neg h1]
      by_cases h2 : c.kind = 2
      · rw [if_pos h2]
        refine ⟨h.del _, funext fun s => ?_⟩
        rw [if_neg h0, if_neg h1, if_pos h2, lk_del]
      · rw [if_neg h2]
        refine ⟨h, funext fun s => ?_⟩
        rw [if_neg h0, if_neg h1, if_neg h2]

/-- The names that may be there behind a loss of power: each change was kept, or not. -/
def outsP : List Chn → ((ByteArray → Int) → Prop) → (ByteArray → Int) → Prop
  | [], P => P
  | c :: r, P => outsP r (fun N => P N ∨ ∃ M, P M ∧ N = doN M c)
theorem outs_snoc : ∀ (l : List Chn) (c : Chn) (P : (ByteArray → Int) → Prop) (N : ByteArray → Int), outsP (l ++ [c]) P N ↔ outsP l P N ∨ ∃ M, outsP l P M ∧ N = doN M c
  | [], _, _, _ => Iff.rfl
  | _ :: r, c, _, N => outs_snoc r c _ N
theorem outs_all : ∀ (l : List Chn) (D : DataW Unit) (ks : List Int) (P : (ByteArray → Int) → Prop), HL D → (∀ c ∈ l, c.kind = 0 → 1 ≤ c.file) → P (lk D) → HL (doAll l D ks) ∧ outsP l P (lk (doAll l D ks))
  | [], _, _, _, h, _, hP => ⟨h, hP⟩
  | c :: r, D, ks, P, h, hc, hP => by
    have hs := h.step c (hc c List.mem_cons_self)
    refine outs_all r _ ks.tail _ ?_ (fun x hx => hc x (List.mem_cons_of_mem _ hx)) ?_
    · split
      · exact hs.1
      · exact h
    · split
      · exact .inr ⟨_, hP, hs.2⟩
      · exact .inl hP
def Outs (S : St) (N : ByteArray → Int) : Prop := outsP S.since (fun M => M = lk S.lasting) N

/-! The names of a manifest's files. -/
def nCur : ByteArray := ⟨#[99, 117, 114, 114, 101, 110, 116]⟩
def nFrs : ByteArray := ⟨#[99, 117, 114, 114, 101, 110, 116, 46, 116, 109, 112]⟩
def mnm (k : Nat) : ByteArray := if k < 10 then ⟨#[109, 97, 110, 46, UInt8.ofNat (48 + k)]⟩ else ⟨#[109, 97, 110, 46, UInt8.ofNat (48 + k / 10), UInt8.ofNat (48 + k % 10)]⟩
def numM (s : ByteArray) : Nat := match s.data.toList with
  | [109, 97, 110, 46, a] => a.toNat - 48
  | [109, 97, 110, 46, a, b] => (a.toNat - 48) * 10 + (b.toNat - 48)
  | _ => 0
theorem numM_all : ∀ k < 100, numM (mnm k) = k := by decide
theorem numM_mnm {k : Nat} (h : k < 100) : numM (mnm k) = k := numM_all k h
theorem mnm_inj {j k : Nat} (hj : j < 100) (hk : k < 100) (h : mnm j = mnm k) : j = k := by
  rw [← numM_mnm hj, ← numM_mnm hk, h]
theorem numM_cur : numM nCur = 0 := by decide
theorem numM_frs : numM nFrs = 0 := by decide
theorem mnm_okAll : ∀ k < 100, okName (mnm k) = true ∧ (mnm k).size ≤ 6 := by decide
theorem okCur : okName nCur = true := by decide
theorem okFrs : okName nFrs = true := by decide
theorem cur_frs : nCur ≠ nFrs := by decide
theorem mnm_cur {k : Nat} (h : k < 100) (h1 : 1 ≤ k) : mnm k ≠ nCur := fun e => by have := numM_mnm h; rw [e, numM_cur] at this; omega
theorem mnm_frs {k : Nat} (h : k < 100) (h1 : 1 ≤ k) : mnm k ≠ nFrs := fun e => by have := numM_mnm h; rw [e, numM_frs] at this; omega
def okM (T : Nat) (s : ByteArray) : Prop := s = nCur ∨ s = nFrs ∨ ∃ k, 1 ≤ k ∧ k ≤ T ∧ s = mnm k
theorem okM.mono {T T' : Nat} {s : ByteArray} (h : okM T s) (ht : T ≤ T') : okM T' s := h.imp id (Or.imp id fun ⟨k, a, b, c⟩ => ⟨k, a, Nat.le_trans b ht, c⟩)

end Go.Proofs.YtcahlmneancapaaGreatDoor.Clep
