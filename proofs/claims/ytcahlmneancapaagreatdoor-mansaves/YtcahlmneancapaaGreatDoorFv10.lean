/- What of the library this program calls, each with the contract that the library holds: numbers as digits, and back; a text behind its beginning; is a text in a row. No conditions. -/
import Derived.Shelf.Small.Wraps
import Derived.Shelf.Strconv.AtoiAll
import Derived.Shelf.Strconv.ErrVarAll
import Derived.Shelf.Strconv.Itoa3
import Derived.Shelf.Slices.Turned
import Derived.Ground.NamesProg
import Derived.Test.YtcahlmneancapaaGreatDoorProg
import Derived.Test.YtcahlmneancapaaGreatDoorFv09
namespace Go.Proofs
open Go.Shelf
def Tryz.itoaA_ren : Go.Shelf.Ren := ⟨fun | 171 => 54 | 243 => 94 | 246 => 121 | 283 => 153 | 284 => 154 | 285 => 155 | 286 => 156 | 129 => 152 | 317 => 184 | 318 => 185 | 319 => 186 | 320 => 187 | 337 => 206 | 338 => 207 | n => n, fun | 3 => 3 | 9 => 9 | 2 => 2 | 4 => 4 | 171 => 216 | 0 => 0 | 53 => 29 | 37 => 44 | 5 => 5 | 173 => 218 | 212 => 246 | 51 => 82 | 20 => 20 | 213 => 247 | 46 => 163 | 232 => 274 | 233 => 275 | n => n, fun | 17 => 2 | 18 => 3 | 19 => 4 | n => n⟩
theorem Tryz.itoaA : Go.Proofs.LaysM.n171 Tryz.prog Tryz.itoaA_ren := {
  mixed := by kernel_rfl
  f129 := Tryz.func152.trans (congrArg some (by kernel_rfl))
  f171 := Tryz.func54.trans (congrArg some (by kernel_rfl))
  f243 := Tryz.func94.trans (congrArg some (by kernel_rfl))
  f246 := Tryz.func121.trans (congrArg some (by kernel_rfl))
  f283 := Tryz.func153.trans (congrArg some (by kernel_rfl))
  f284 := Tryz.func154.trans (congrArg some (by kernel_rfl))
  f285 := Tryz.func155.trans (congrArg some (by kernel_rfl))
  f286 := Tryz.func156.trans (congrArg some (by kernel_rfl))
  f317 := Tryz.func184.trans (congrArg some (by kernel_rfl))
  f318 := Tryz.func185.trans (congrArg some (by kernel_rfl))
  f319 := Tryz.func186.trans (congrArg some (by kernel_rfl))
  f320 := Tryz.func187.trans (congrArg some (by kernel_rfl))
  f337 := Tryz.func206.trans (congrArg some (by kernel_rfl))
  f338 := Tryz.func207.trans (congrArg some (by kernel_rfl))
  t0 := Tryz.underlying0
  a0 := Tryz.isAgg0
  z0 := Tryz.sizeOf0
  v0 := Tryz.zeroValue0
  t2 := Tryz.underlying2
  a2 := Tryz.isAgg2
  z2 := Tryz.sizeOf2
  v2 := Tryz.zeroValue2
  t3 := Tryz.underlying3
  a3 := Tryz.isAgg3
  z3 := Tryz.sizeOf3
  v3 := Tryz.zeroValue3
  t4 := Tryz.underlying4
  a4 := Tryz.isAgg4
  z4 := Tryz.sizeOf4
  v4 := Tryz.zeroValue4
  t5 := Tryz.underlying5
  a5 := Tryz.isAgg5
  z5 := Tryz.sizeOf5
  v5 := Tryz.zeroValue5
  t9 := Tryz.underlying9
  a9 := Tryz.isAgg9
  z9 := Tryz.sizeOf9
  v9 := Tryz.zeroValue9
  t20 := Tryz.underlying20
  a20 := Tryz.isAgg20
  z20 := Tryz.sizeOf20
  v20 := Tryz.zeroValue20
  t37 := Tryz.underlying44
  a37 := Tryz.isAgg44
  z37 := Tryz.sizeOf44
  v37 := Tryz.zeroValue44
  t46 := Tryz.underlying163
  a46 := Tryz.isAgg163
  z46 := Tryz.sizeOf163
  v46 := Tryz.zeroValue163
  t51 := Tryz.underlying82
  a51 := Tryz.isAgg82
  z51 := Tryz.sizeOf82
  v51 := Tryz.zeroValue82
  t53 := Tryz.underlying29
  a53 := Tryz.isAgg29
  z53 := Tryz.sizeOf29
  v53 := Tryz.zeroValue29
  t171 := Tryz.underlying216
  a171 := Tryz.isAgg216
  z171 := Tryz.sizeOf216
  v171 := Tryz.zeroValue216
  t173 := Tryz.underlying218
  a173 := Tryz.isAgg218
  z173 := Tryz.sizeOf218
  v173 := Tryz.zeroValue218
  t212 := Tryz.underlying246
  a212 := Tryz.isAgg246
  z212 := Tryz.sizeOf246
  v212 := Tryz.zeroValue246
  t213 := Tryz.underlying247
  a213 := Tryz.isAgg247
  z213 := Tryz.sizeOf247
  t232 := Tryz.underlying274
  a232 := Tryz.isAgg274
  z232 := Tryz.sizeOf274
  v232 := Tryz.zeroValue274
  t233 := Tryz.underlying275
  a233 := Tryz.isAgg275
  z233 := Tryz.sizeOf275
  v233 := Tryz.zeroValue275
  g17 := by kernel_rfl
  g18 := by kernel_rfl
  g19 := by kernel_rfl
  i0 := by kernel_rfl
  i2 := by kernel_rfl
  i3 := by kernel_rfl
  i4 := by kernel_rfl
  i5 := by kernel_rfl
  i9 := by kernel_rfl
  i20 := by kernel_rfl
  i37 := by kernel_rfl
  i46 := by kernel_rfl
  i51 := by kernel_rfl
  i53 := by kernel_rfl
  i171 := by kernel_rfl
  i173 := by kernel_rfl
  i212 := by kernel_rfl
  i232 := by kernel_rfl
  i233 := by kernel_rfl
  m17 := by kernel_rfl
  m18 := by kernel_rfl
  m19 := by kernel_rfl }
def Tryz.atoiA_ren : Go.Shelf.Ren := ⟨fun | 172 => 56 | 244 => 96 | 245 => 97 | 247 => 123 | 279 => 124 | 280 => 125 | 281 => 126 | 282 => 127 | 287 => 157 | 316 => 91 | 171 => 54 | 205 => 158 | 321 => 188 | 322 => 189 | 243 => 94 | 246 => 121 | 283 => 153 | 284 => 154 | 285 => 155 | 286 => 156 | 129 => 152 | 317 => 184 | 318 => 185 | 319 => 186 | 320 => 187 | 337 => 206 | 338 => 207 | n => n, fun | 9 => 9 | 3 => 3 | 75 => 118 | 76 => 119 | 4 => 4 | 5 => 5 | 167 => 187 | 37 => 44 | 0 => 0 | 85 => 188 | 2 => 2 | 168 => 190 | 53 => 29 | 175 => 220 | 46 => 163 | 210 => 223 | 127 => 182 | 145 => 251 | 143 => 249 | 21 => 21 | 171 => 216 | 173 => 218 | 212 => 246 | 51 => 82 | 20 => 20 | 213 => 247 | 232 => 274 | 233 => 275 | 80 => 47 | n => n, fun | 15 => 0 | 16 => 1 | 17 => 2 | 18 => 3 | 19 => 4 | n => n⟩
theorem Tryz.atoiA : Go.Proofs.LaysC.n172 Tryz.prog Tryz.atoiA_ren := {
  mixed := by kernel_rfl
  f129 := Tryz.func152.trans (congrArg some (by kernel_rfl))
  f171 := Tryz.func54.trans (congrArg some (by kernel_rfl))
  f172 := Tryz.func56.trans (congrArg some (by kernel_rfl))
  f205 := Tryz.func158.trans (congrArg some (by kernel_rfl))
  f243 := Tryz.func94.trans (congrArg some (by kernel_rfl))
  f244 := Tryz.func96.trans (congrArg some (by kernel_rfl))
  f245 := Tryz.func97.trans (congrArg some (by kernel_rfl))
  f246 := Tryz.func121.trans (congrArg some (by kernel_rfl))
  f247 := Tryz.func123.trans (congrArg some (by kernel_rfl))
  f279 := Tryz.func124.trans (congrArg some (by kernel_rfl))
  f280 := Tryz.func125.trans (congrArg some (by kernel_rfl))
  f281 := Tryz.func126.trans (congrArg some (by kernel_rfl))
  f282 := Tryz.func127.trans (congrArg some (by kernel_rfl))
  f283 := Tryz.func153.trans (congrArg some (by kernel_rfl))
  f284 := Tryz.func154.trans (congrArg some (by kernel_rfl))
  f285 := Tryz.func155.trans (congrArg some (by kernel_rfl))
  f286 := Tryz.func156.trans (congrArg some (by kernel_rfl))
  f287 := Tryz.func157.trans (congrArg some (by kernel_rfl))
  f316 := Tryz.func91.trans (congrArg some (by kernel_rfl))
  f317 := Tryz.func184.trans (congrArg some (by kernel_rfl))
  f318 := Tryz.func185.trans (congrArg some (by kernel_rfl))
  f319 := Tryz.func186.trans (congrArg some (by kernel_rfl))
  f320 := Tryz.func187.trans (congrArg some (by kernel_rfl))
  f321 := Tryz.func188.trans (congrArg some (by kernel_rfl))
  f322 := Tryz.func189.trans (congrArg some (by kernel_rfl))
  f337 := Tryz.func206.trans (congrArg some (by kernel_rfl))
  f338 := Tryz.func207.trans (congrArg some (by kernel_rfl))
  t0 := Tryz.underlying0
  a0 := Tryz.isAgg0
  z0 := Tryz.sizeOf0
  v0 := Tryz.zeroValue0
  t2 := Tryz.underlying2
  a2 := Tryz.isAgg2
  z2 := Tryz.sizeOf2
  v2 := Tryz.zeroValue2
  t3 := Tryz.underlying3
  a3 := Tryz.isAgg3
  z3 := Tryz.sizeOf3
  v3 := Tryz.zeroValue3
  t4 := Tryz.underlying4
  a4 := Tryz.isAgg4
  z4 := Tryz.sizeOf4
  v4 := Tryz.zeroValue4
  t5 := Tryz.underlying5
  a5 := Tryz.isAgg5
  z5 := Tryz.sizeOf5
  v5 := Tryz.zeroValue5
  t9 := Tryz.underlying9
  a9 := Tryz.isAgg9
  z9 := Tryz.sizeOf9
  v9 := Tryz.zeroValue9
  t20 := Tryz.underlying20
  a20 := Tryz.isAgg20
  z20 := Tryz.sizeOf20
  v20 := Tryz.zeroValue20
  t21 := Tryz.underlying21
  a21 := Tryz.isAgg21
  z21 := Tryz.sizeOf21
  v21 := Tryz.zeroValue21
  t37 := Tryz.underlying44
  a37 := Tryz.isAgg44
  z37 := Tryz.sizeOf44
  v37 := Tryz.zeroValue44
  t46 := Tryz.underlying163
  a46 := Tryz.isAgg163
  z46 := Tryz.sizeOf163
  v46 := Tryz.zeroValue163
  t51 := Tryz.underlying82
  a51 := Tryz.isAgg82
  z51 := Tryz.sizeOf82
  v51 := Tryz.zeroValue82
  t53 := Tryz.underlying29
  a53 := Tryz.isAgg29
  z53 := Tryz.sizeOf29
  v53 := Tryz.zeroValue29
  t75 := Tryz.underlying118
  a75 := Tryz.isAgg118
  z75 := Tryz.sizeOf118
  v75 := Tryz.zeroValue118
  t76 := Tryz.underlying119
  a76 := Tryz.isAgg119
  z76 := Tryz.sizeOf119
  v76 := Tryz.zeroValue119
  t85 := Tryz.underlying188
  a85 := Tryz.isAgg188
  z85 := Tryz.sizeOf188
  v85 := Tryz.zeroValue188
  t127 := Tryz.underlying182
  a127 := Tryz.isAgg182
  z127 := Tryz.sizeOf182
  v127 := Tryz.zeroValue182
  t143 := Tryz.underlying249
  a143 := Tryz.isAgg249
  z143 := Tryz.sizeOf249
  v143 := Tryz.zeroValue249
  t145 := Tryz.underlying251
  a145 := Tryz.isAgg251
  z145 := Tryz.sizeOf251
  v145 := Tryz.zeroValue251
  t167 := Tryz.underlying187
  a167 := Tryz.isAgg187
  z167 := Tryz.sizeOf187
  v167 := Tryz.zeroValue187
  t168 := Tryz.underlying190
  a168 := Tryz.isAgg190
  z168 := Tryz.sizeOf190
  v168 := Tryz.zeroValue190
  t171 := Tryz.underlying216
  a171 := Tryz.isAgg216
  z171 := Tryz.sizeOf216
  v171 := Tryz.zeroValue216
  t173 := Tryz.underlying218
  a173 := Tryz.isAgg218
  z173 := Tryz.sizeOf218
  v173 := Tryz.zeroValue218
  t175 := Tryz.underlying220
  a175 := Tryz.isAgg220
  z175 := Tryz.sizeOf220
  v175 := Tryz.zeroValue220
  t210 := Tryz.underlying223
  a210 := Tryz.isAgg223
  z210 := Tryz.sizeOf223
  v210 := Tryz.zeroValue223
  t212 := Tryz.underlying246
  a212 := Tryz.isAgg246
  z212 := Tryz.sizeOf246
  v212 := Tryz.zeroValue246
  t213 := Tryz.underlying247
  a213 := Tryz.isAgg247
  z213 := Tryz.sizeOf247
  t232 := Tryz.underlying274
  a232 := Tryz.isAgg274
  z232 := Tryz.sizeOf274
  v232 := Tryz.zeroValue274
  t233 := Tryz.underlying275
  a233 := Tryz.isAgg275
  z233 := Tryz.sizeOf275
  v233 := Tryz.zeroValue275
  g15 := by kernel_rfl
  g16 := by kernel_rfl
  g17 := by kernel_rfl
  g18 := by kernel_rfl
  g19 := by kernel_rfl
  t80 := Tryz.underlying47
  a80 := Tryz.isAgg47
  z80 := Tryz.sizeOf47
  v80 := Tryz.zeroValue47
  i0 := by kernel_rfl
  i2 := by kernel_rfl
  i3 := by kernel_rfl
  i4 := by kernel_rfl
  i5 := by kernel_rfl
  i9 := by kernel_rfl
  i20 := by kernel_rfl
  i21 := by kernel_rfl
  i37 := by kernel_rfl
  i46 := by kernel_rfl
  i51 := by kernel_rfl
  i53 := by kernel_rfl
  i75 := by kernel_rfl
  i76 := by kernel_rfl
  i80 := by kernel_rfl
  i85 := by kernel_rfl
  i127 := by kernel_rfl
  i143 := by kernel_rfl
  i145 := by kernel_rfl
  i167 := by kernel_rfl
  i168 := by kernel_rfl
  i171 := by kernel_rfl
  i173 := by kernel_rfl
  i175 := by kernel_rfl
  i210 := by kernel_rfl
  i212 := by kernel_rfl
  i232 := by kernel_rfl
  i233 := by kernel_rfl
  m15 := by kernel_rfl
  m16 := by kernel_rfl
  m17 := by kernel_rfl
  m18 := by kernel_rfl
  m19 := by kernel_rfl
  c0 := by kernel_rfl
  c2 := by kernel_rfl
  c3 := by kernel_rfl
  c4 := by kernel_rfl
  c5 := by kernel_rfl
  c9 := by kernel_rfl
  c20 := by kernel_rfl
  c21 := by kernel_rfl
  c37 := by kernel_rfl
  c46 := by kernel_rfl
  c51 := by kernel_rfl
  c53 := by kernel_rfl
  c75 := by kernel_rfl
  c76 := by kernel_rfl
  c80 := by kernel_rfl
  c85 := by kernel_rfl
  c127 := by kernel_rfl
  c143 := by kernel_rfl
  c145 := by kernel_rfl
  c167 := by kernel_rfl
  c168 := by kernel_rfl
  c171 := by kernel_rfl
  c173 := by kernel_rfl
  c175 := by kernel_rfl
  c210 := by kernel_rfl
  c212 := by kernel_rfl
  c213 := by kernel_rfl
  c232 := by kernel_rfl
  c233 := by kernel_rfl }
def Tryz.cutA_ren : Go.Shelf.Ren := ⟨fun | 103 => 55 | 210 => 95 | 206 => 122 | n => n, fun | 9 => 9 | 4 => 4 | 24 => 115 | 3 => 3 | n => n, fun | n => n⟩
theorem Tryz.cutA : Go.Proofs.Lays.n103 Tryz.prog Tryz.cutA_ren := {
  mixed := by kernel_rfl
  f103 := Tryz.func55.trans (congrArg some (by kernel_rfl))
  f206 := Tryz.func122.trans (congrArg some (by kernel_rfl))
  f210 := Tryz.func95.trans (congrArg some (by kernel_rfl))
  t3 := Tryz.underlying3
  a3 := Tryz.isAgg3
  z3 := Tryz.sizeOf3
  v3 := Tryz.zeroValue3
  t4 := Tryz.underlying4
  a4 := Tryz.isAgg4
  z4 := Tryz.sizeOf4
  v4 := Tryz.zeroValue4
  t9 := Tryz.underlying9
  a9 := Tryz.isAgg9
  z9 := Tryz.sizeOf9
  v9 := Tryz.zeroValue9
  t24 := Tryz.underlying115
  a24 := Tryz.isAgg115
  z24 := Tryz.sizeOf115
  v24 := Tryz.zeroValue115 }
def Tryz.contA_ren : Go.Shelf.Ren := ⟨fun | 110 => 104 | 109 => 131 | n => n, fun | 31 => 40 | 9 => 9 | 4 => 4 | 3 => 3 | 0 => 0 | n => n, fun | n => n⟩
theorem Tryz.contA : Go.Proofs.Lays.n110 Tryz.prog Tryz.contA_ren := {
  mixed := by kernel_rfl
  f109 := Tryz.func131.trans (congrArg some (by kernel_rfl))
  f110 := Tryz.func104.trans (congrArg some (by kernel_rfl))
  t0 := Tryz.underlying0
  a0 := Tryz.isAgg0
  z0 := Tryz.sizeOf0
  v0 := Tryz.zeroValue0
  t3 := Tryz.underlying3
  a3 := Tryz.isAgg3
  z3 := Tryz.sizeOf3
  v3 := Tryz.zeroValue3
  t4 := Tryz.underlying4
  a4 := Tryz.isAgg4
  z4 := Tryz.sizeOf4
  v4 := Tryz.zeroValue4
  t9 := Tryz.underlying9
  a9 := Tryz.isAgg9
  z9 := Tryz.sizeOf9
  v9 := Tryz.zeroValue9
  t31 := Tryz.underlying40
  a31 := Tryz.isAgg40
  z31 := Tryz.sizeOf40
  v31 := Tryz.zeroValue40 }
end Go.Proofs

/- Names of files: what man.isKind, man.Name and man.Number do when called with names of a manifest's files (walks over the translated program). Numbers from 1 to 99. -/
namespace Go.Proofs.YtcahlmneancapaaGreatDoor.Clep
open Go.RowKit Go.Maps
set_option linter.unusedVariables false
set_option maxRecDepth 10000

def kLog : ByteArray := ⟨#[108, 111, 103]⟩
def kTab : ByteArray := ⟨#[116, 97, 98]⟩
def kMan : ByteArray := ⟨#[109, 97, 110]⟩
def kPt : ByteArray := ⟨#[46]⟩
def isK (s : ByteArray) : Bool := decide (s = kLog) || (decide (s = kTab) || decide (s = kMan))
theorem str_ne {s t : ByteArray} (h : s ≠ t) : (s.toList == t.data.toList) = false := by
  rw [ByteArray.toList_eq]
  simp only [beq_eq_false_iff_ne, ne_eq]
  intro e
  exact h (key_inj (by unfold key; rw [e]))
theorem iskind_any (s : ByteArray) (w : World) : Calls Tryz.prog 53 #[.string s] w fun e w' => e = .returned (.bool (isK s)) ∧ w' = w := by
  by_cases h1 : s = kLog
  · subst h1
    go_enter Tryz.func53, Tryz.ntmps53
    unfold kLog
    go_wp2
    go_ret
    exact ⟨by rfl, rfl⟩
  · by_cases h2 : s = kTab
    · subst h2
      go_enter Tryz.func53, Tryz.ntmps53
      unfold kTab
      go_wp2
      go_ret
      exact ⟨by rfl, rfl⟩
    · by_cases h3 : s = kMan
      · subst h3
        go_enter Tryz.func53, Tryz.ntmps53
        unfold kMan
        go_wp2
        go_ret
        exact ⟨by rfl, rfl⟩
      · have e : isK s = false := by unfold isK; simp [h1, h2, h3]
        rw [e]
        have e1 : (s.toList == [108, 111, 103]) = false := str_ne (t := kLog) h1
        have e2 : (s.toList == [116, 97, 98]) = false := str_ne (t := kTab) h2
        have e3 : (s.toList == [109, 97, 110]) = false := str_ne (t := kMan) h3
        clear e h1 h2 h3
        go_enter Tryz.func53, Tryz.ntmps53
        go_wp2
        go_ret
        exact ⟨rfl, rfl⟩
theorem digits_one {k : Nat} (h : k < 10) : Lib.decDigits k = [UInt8.ofNat (48 + k)] := by rw [Lib.decDigits, dif_pos h]
theorem digits_two {k : Nat} (h : ¬ k < 10) (h2 : k < 100) : Lib.decDigits k = [UInt8.ofNat (48 + k / 10), UInt8.ofNat (48 + k % 10)] := by rw [Lib.decDigits, dif_neg h, digits_one (by omega)]; rfl
theorem itoa_small (k : Nat) (h : k < 100) (w : World) : Calls Tryz.prog 54 #[.int .i64 k] w fun e w' => e = .returned (.string ⟨(Lib.decDigits k).toArray⟩) ∧ w' = w :=
  Any.strconv_Itoa_small { Tryz.itoaA with } k h w
theorem digits_len {k : Nat} (h : k < 100) : (Lib.decDigits k).length ≤ 2 := by
  by_cases h1 : k < 10
  · rw [digits_one h1]; exact Nat.le_succ _
  · rw [digits_two h1 h]; exact Nat.le_refl _
theorem isK_size {s : ByteArray} (h : isK s = true) : s.size = 3 := by
  unfold isK at h
  simp only [Bool.or_eq_true, decide_eq_true_eq] at h
  rcases h with rfl | rfl | rfl <;> rfl
theorem name_small (s : ByteArray) (hs : isK s = true) (k : Nat) (h1 : 1 ≤ k) (h2 : k < 100) (w : World) : Calls Tryz.prog 23 #[.string s, .int .i64 k] w fun e w' => e = .returned (.string (s ++ kPt ++ ⟨(Lib.decDigits k).toArray⟩)) ∧ w' = w := by
  have K := hide (iskind_any s w)
  rw [hs] at K
  have I := hide (itoa_small k h2 w)
  have hs3 := isK_size hs
  have hd := digits_len h2
  have hp : kPt.size = 1 := rfl
  have hsz : (ByteArray.mk (Lib.decDigits k).toArray).size ≤ 2 := by simpa [ByteArray.size] using hd
  have a1 : (Op.stringOp .add s kPt).run Tryz.prog w = .ok (.string (s ++ kPt)) w := run_string_add_sum w _ _ (by omega)
  have a2 : (Op.stringOp .add (s ++ kPt) ⟨(Lib.decDigits k).toArray⟩).run Tryz.prog w = .ok (.string (s ++ kPt ++ ⟨(Lib.decDigits k).toArray⟩)) w := run_string_add_sum w _ _ (by rw [ByteArray.size_append]; omega)
  generalize (⟨(Lib.decDigits k).toArray⟩ : ByteArray) = D at *
  have e1 : decide ((k : Int) < 1) = false := by simp; omega
  have e2 : decide (1073741824 < (k : Int)) = false := by simp; omega
  unfold kPt at a1 a2 ⊢
  generalize s ++ { data := #[46] } = T at *
  clear hs hs3 hd hp hsz
  go_enter Tryz.func23, Tryz.ntmps23
  go_wp2_with fail
  refine K.out.mono ?_
  rintro e w1 ⟨rfl, rfl⟩
  clear K
  go_wp2_with fail
  refine I.out.mono ?_
  rintro e w2 ⟨rfl, rfl⟩
  go_wp2
  go_ret
  exact ⟨rfl, rfl⟩
theorem man_name {k : Nat} (h : k < 100) : kMan ++ kPt ++ ⟨(Lib.decDigits k).toArray⟩ = mnm k := by
  unfold mnm
  by_cases h1 : k < 10
  · rw [if_pos h1, digits_one h1]; rfl
  · rw [if_neg h1, digits_two h1 h]; rfl
theorem name_man (k : Nat) (h1 : 1 ≤ k) (h2 : k < 100) (w : World) : Calls Tryz.prog 23 #[.string kMan, .int .i64 k] w fun e w' => e = .returned (.string (mnm k)) ∧ w' = w := by
  have := name_small kMan (by decide) k h1 h2 w
  rw [man_name h2] at this
  exact this

end Go.Proofs.YtcahlmneancapaaGreatDoor.Clep

/- A Disk that bears a manifest alone: what each change of its names or bytes leaves. Up to 60 files. -/
namespace Go.Proofs.YtcahlmneancapaaGreatDoor.Clep
open Go.RowKit Go.Maps Go.Sort
set_option linter.unusedVariables false
set_option maxRecDepth 10000

/-- What the names N, of files fs, may be. -/
structure Nok (fs : List Fl) (T : Nat) (N : ByteArray → Int) : Prop where
  leads : ∀ s, N s ≠ 0 → ∃ f, fileAt fs (N s) = some f
  inj : ∀ s t, N s ≠ 0 → N s = N t → s = t
  sup : ∀ s, N s ≠ 0 → okM T s
/-- A Disk that bears a manifest's files alone, of numbers up to T. -/
structure Dk (S : St) (T : Nat) : Prop where
  hn : HL S.names
  hl : HL S.lasting
  cr : ∀ c ∈ S.since, c.kind = 0 → 1 ≤ c.file
  nm : Outs S (lk S.names)
  fm : ∀ f ∈ S.files, 1 ≤ f.num ∧ f.num ≤ S.made ∧ f.lasts ≤ f.bs.length
  all : ∀ N, Outs S N → Nok S.files T N
  sm : T ≤ 60
  ri : (S.files.map (·.num)).Nodup
/-- Two that differ in what is counted alone. -/
structure Eqf (S S' : St) : Prop where
  names : S'.names = S.names
  lasting : S'.lasting = S.lasting
  since : S'.since = S.since
  files : S'.files = S.files
  made : S'.made = S.made
  q : S'.q = S.q
theorem Eqf.refl (S : St) : Eqf S S := ⟨rfl, rfl, rfl, rfl, rfl, rfl⟩
theorem eqf_begin (S : St) : Eqf S (beginS S).2 := by
  obtain ⟨h1, h2, h3, h4, h5, h6, h7⟩ := begin_keeps S
  exact ⟨h4, h5, h6, h3, h2, h7⟩
theorem Eqf.outs {S S' : St} (h : Eqf S S') : Outs S' = Outs S := by unfold Outs; rw [h.since, h.lasting]
theorem Eqf.dk {S S' : St} {T : Nat} (h : Eqf S S') (D : Dk S T) : Dk S' T :=
  ⟨by rw [h.names]; exact D.hn, by rw [h.lasting]; exact D.hl, by rw [h.since]; exact D.cr, by rw [h.outs, h.names]; exact D.nm, by rw [h.files, h.made]; exact D.fm, by rw [h.outs, h.files]; exact D.all, D.sm, by rw [h.files]; exact D.ri⟩
theorem Dk.now {S : St} {T : Nat} (D : Dk S T) : Nok S.files T (lk S.names) := D.all _ D.nm
theorem Dk.last {S : St} {T : Nat} {k : Int} {f : Fl} (D : Dk S T) (h : fileAt S.files k = some f) : k = f.num ∧ 1 ≤ f.num ∧ f.num ≤ S.made ∧ f.lasts ≤ f.bs.length :=
  ⟨(fileAt_mem h).2, D.fm f (fileAt_mem h).1⟩
theorem Dk.zero {S : St} {T : Nat} (D : Dk S T) : fileAt S.files 0 = none := by
  cases h : fileAt S.files 0 with
  | none => rfl
  | some f => have := D.last h; omega

/-! One name made, struck, or moved. -/
theorem at_add (S : St) (s : ByteArray) (hm : ∀ f ∈ S.files, f.num ≤ S.made) (k : Int) : fileAt (addS S s).files k = if k = (S.made : Int) + 1 then some ⟨S.made + 1, [], 0⟩ else fileAt S.files k := by
  unfold addS
  simp only
  rw [fileAt_snoc]
  by_cases h : k = (S.made : Int) + 1
  · rw [if_pos h, fileAt_none (m := S.made) hm (by omega)]
    simp only [Option.none_or]
    rw [if_pos (by omega)]
  · rw [if_neg h, if_neg (by intro e; apply h; rw [← e]; simp)]
    simp
theorem doN_create (N : ByteArray → Int) (s t : ByteArray) (x : Nat) : doN N ⟨0, s, ⟨#[]⟩, x⟩ t = if t = s then (x : Int) else N t := rfl
theorem doN_remove (N : ByteArray → Int) (s t : ByteArray) : doN N ⟨2, s, ⟨#[]⟩, 0⟩ t = if t = s then 0 else N t := rfl
theorem doN_rename (N : ByteArray → Int) (a b t : ByteArray) : doN N ⟨1, a, b, 0⟩ t = if N a = 0 then N t else if t = b then N a else if t = a then 0 else N t := rfl
theorem add_dk {S : St} {T T' : Nat} {s : ByteArray} (D : Dk S T) (ht : T ≤ T') (h6 : T' ≤ 60) (hs : okM T' s) : Dk (addS S s) T' ∧ lk (addS S s).names = (fun t => if t = s then ((S.made + 1 : Nat) : Int) else lk S.names t) ∧
    (∀ N, Outs (addS S s) N → Outs S N ∨ ∃ M, Outs S M ∧ N = fun t => if t = s then ((S.made + 1 : Nat) : Int) else M t) := by
  have hc : (newCh S s).kind = 0 → 1 ≤ (newCh S s).file := fun _ => by simp [newCh]
  have hst := D.hn.step (newCh S s) hc
  have hO : ∀ N, Outs (addS S s) N ↔ Outs S N ∨ ∃ M, Outs S M ∧ N = doN M (newCh S s) := fun N => outs_snoc _ _ _ N
  have hO2 : ∀ N, Outs (addS S s) N → Outs S N ∨ ∃ M, Outs S M ∧ N = fun t => if t = s then ((S.made + 1 : Nat) : Int) else M t := fun N h => by
    rcases (hO N).1 h with h | ⟨M, hM, rfl⟩
    · exact .inl h
    · exact .inr ⟨M, hM, rfl⟩
  have hA := at_add S s (fun f hf => (D.fm f hf).2.1)
  have hle : ∀ N, Outs S N → ∀ t, N t ≤ S.made := fun N hN t => by
    by_cases e : N t = 0
    · omega
    · obtain ⟨f, hf⟩ := (D.all N hN).leads t e
      have := D.last hf
      omega
  refine ⟨⟨hst.1, D.hl, fun c hcm => ?_, (hO _).2 (.inr ⟨_, D.nm, hst.2⟩), fun f hf => ?_, fun N hN => ?_, h6, ?_⟩, hst.2.trans rfl, hO2⟩
  · rcases List.mem_append.1 hcm with h | h
    · exact D.cr c h
    · rw [List.mem_singleton.1 h]; exact hc
  · rcases List.mem_append.1 hf with h | h
    · have := D.fm f h
      exact ⟨this.1, Nat.le_succ_of_le this.2.1, this.2.2⟩
    · rw [List.mem_singleton.1 h]; exact ⟨by simp, Nat.le_refl _, Nat.le_refl _⟩
  · rcases hO2 N hN with h | ⟨M, hM, rfl⟩
    · have K := D.all N h
      refine ⟨fun t e => ?_, K.inj, fun t e => (K.sup t e).mono ht⟩
      rw [hA, if_neg (by have := hle N h t; omega)]
      exact K.leads t e
    · have K := D.all M hM
      refine ⟨fun t e => ?_, fun t u e1 e2 => ?_, fun t e => ?_⟩
      · try simp only at e ⊢
        by_cases ets : t = s
        · rw [if_pos ets, hA, if_pos (by omega)]; exact ⟨_, rfl⟩
        · rw [if_neg ets] at e
          rw [if_neg ets, hA, if_neg (by have := hle M hM t; omega)]
          exact K.leads t e
      · try simp only at e1 e2
        have h1 := hle M hM t
        have h2 := hle M hM u
        by_cases ets : t = s
        · by_cases eus : u = s
          · rw [ets, eus]
          · rw [if_pos ets, if_neg eus] at e2; omega
        · by_cases eus : u = s
          · rw [if_neg ets, if_pos eus] at e2; omega
          · rw [if_neg ets] at e1
            rw [if_neg ets, if_neg eus] at e2
            exact K.inj t u e1 e2
      · try simp only at e
        by_cases ets : t = s
        · rw [ets]; exact hs
        · rw [if_neg ets] at e
          exact (K.sup t e).mono ht
  · show ((S.files ++ [(⟨S.made + 1, [], 0⟩ : Fl)]).map Fl.num).Nodup
    rw [List.map_append, List.nodup_append]
    refine ⟨D.ri, by simp, fun a ha b hb e => ?_⟩
    obtain ⟨f, hf, rfl⟩ := List.mem_map.1 ha
    simp only [List.map_cons, List.map_nil, List.mem_singleton] at hb
    have := (D.fm f hf).2.1
    omega
/-- A change of names alone: struck, or moved. -/
def chgS (S : St) (c : Chn) : St := { S with names := doS S.names c, since := S.since ++ [c] }
theorem rmv_dk {S : St} {T : Nat} (D : Dk S T) (s : ByteArray) : Dk (chgS S ⟨2, s, ⟨#[]⟩, 0⟩) T ∧ lk (chgS S ⟨2, s, ⟨#[]⟩, 0⟩).names = (fun t => if t = s then 0 else lk S.names t) ∧
    (∀ N, Outs (chgS S ⟨2, s, ⟨#[]⟩, 0⟩) N → Outs S N ∨ ∃ M, Outs S M ∧ N = fun t => if t = s then 0 else M t) := by
  have hst := D.hn.step ⟨2, s, ⟨#[]⟩, 0⟩ (fun h => by cases h)
  have hO : ∀ N, Outs (chgS S ⟨2, s, ⟨#[]⟩, 0⟩) N ↔ Outs S N ∨ ∃ M, Outs S M ∧ N = doN M ⟨2, s, ⟨#[]⟩, 0⟩ := fun N => outs_snoc _ _ _ N
  have hO2 : ∀ N, Outs (chgS S ⟨2, s, ⟨#[]⟩, 0⟩) N → Outs S N ∨ ∃ M, Outs S M ∧ N = fun t => if t = s then 0 else M t := fun N h => by
    rcases (hO N).1 h with h | ⟨M, hM, rfl⟩
    · exact .inl h
    · exact .inr ⟨M, hM, rfl⟩
  refine ⟨⟨hst.1, D.hl, fun c hcm => ?_, (hO _).2 (.inr ⟨_, D.nm, hst.2⟩), D.fm, fun N hN => ?_, D.sm, D.ri⟩, hst.2.trans rfl, hO2⟩
  · rcases List.mem_append.1 hcm with h | h
    · exact D.cr c h
    · rw [List.mem_singleton.1 h]; intro h; cases h
  · rcases hO2 N hN with h | ⟨M, hM, rfl⟩
    · exact D.all N h
    · have K := D.all M hM
      refine ⟨fun t e => ?_, fun t u e1 e2 => ?_, fun t e => ?_⟩
      · try simp only at e ⊢
        by_cases ets : t = s
        · rw [if_pos ets] at e; exact absurd rfl e
        · rw [if_neg ets] at e ⊢; exact K.leads t e
      · try simp only at e1 e2
        by_cases ets : t = s
        · rw [if_pos ets] at e1; exact absurd rfl e1
        · rw [if_neg ets] at e1
          by_cases eus : u = s
          · rw [if_neg ets, if_pos eus] at e2; exact absurd e2 e1
          · rw [if_neg ets, if_neg eus] at e2; exact K.inj t u e1 e2
      · try simp only at e
        by_cases ets : t = s
        · rw [if_pos ets] at e; exact absurd rfl e
        · rw [if_neg ets] at e; exact K.sup t e
theorem ren_dk {S : St} {T : Nat} (D : Dk S T) (a b : ByteArray) (hab : a ≠ b) (hb : okM T b) (ha : ∀ N, Outs S N → N a ≠ 0) : Dk (chgS S ⟨1, a, b, 0⟩) T ∧ lk (chgS S ⟨1, a, b, 0⟩).names = (fun t => if t = b then lk S.names a else if t = a then 0 else lk S.names t) ∧
    (∀ N, Outs (chgS S ⟨1, a, b, 0⟩) N → Outs S N ∨ ∃ M, Outs S M ∧ N = fun t => if t = b then M a else if t = a then 0 else M t) := by
  have hst := D.hn.step ⟨1, a, b, 0⟩ (fun h => by cases h)
  have hO : ∀ N, Outs (chgS S ⟨1, a, b, 0⟩) N ↔ Outs S N ∨ ∃ M, Outs S M ∧ N = doN M ⟨1, a, b, 0⟩ := fun N => outs_snoc _ _ _ N
  have hdo : ∀ M, Outs S M → doN M ⟨1, a, b, 0⟩ = fun t => if t = b then M a else if t = a then 0 else M t := fun M hM => by
    funext t; rw [doN_rename, if_neg (ha M hM)]
  have hO2 : ∀ N, Outs (chgS S ⟨1, a, b, 0⟩) N → Outs S N ∨ ∃ M, Outs S M ∧ N = fun t => if t = b then M a else if t = a then 0 else M t := fun N h => by
    rcases (hO N).1 h with h | ⟨M, hM, rfl⟩
    · exact .inl h
    · exact .inr ⟨M, hM, hdo M hM⟩
  refine ⟨⟨hst.1, D.hl, fun c hcm => ?_, (hO _).2 (.inr ⟨_, D.nm, hst.2⟩), D.fm, fun N hN => ?_, D.sm, D.ri⟩, hst.2.trans (hdo _ D.nm), hO2⟩
  · rcases List.mem_append.1 hcm with h | h
    · exact D.cr c h
    · rw [List.mem_singleton.1 h]; intro h; cases h
  · rcases hO2 N hN with h | ⟨M, hM, rfl⟩
    · exact D.all N h
    · have K := D.all M hM
      have hMa := ha M hM
      refine ⟨fun t e => ?_, fun t u e1 e2 => ?_, fun t e => ?_⟩
      · try simp only at e ⊢
        by_cases e1 : t = b
        · rw [if_pos e1]; exact K.leads a hMa
        · rw [if_neg e1] at e ⊢
          by_cases e2 : t = a
          · rw [if_pos e2] at e; exact absurd rfl e
          · rw [if_neg e2] at e ⊢; exact K.leads t e
      · try simp only at e1 e2
        by_cases t1 : t = b
        · by_cases u1 : u = b
          · rw [t1, u1]
          · rw [if_pos t1, if_neg u1] at e2
            by_cases u2 : u = a
            · rw [if_pos u2] at e2; exact absurd e2 hMa
            · rw [if_neg u2] at e2; exact absurd (K.inj a u hMa e2).symm u2
        · rw [if_neg t1] at e1 e2
          by_cases t2 : t = a
          · rw [if_pos t2] at e1; exact absurd rfl e1
          · rw [if_neg t2] at e1 e2
            by_cases u1 : u = b
            · rw [if_pos u1] at e2; exact absurd (K.inj t a e1 e2) t2
            · rw [if_neg u1] at e2
              by_cases u2 : u = a
              · rw [if_pos u2] at e2; exact absurd e2 e1
              · rw [if_neg u2] at e2; exact K.inj t u e1 e2
      · try simp only at e
        by_cases e1 : t = b
        · rw [e1]; exact hb
        · rw [if_neg e1] at e
          by_cases e2 : t = a
          · rw [if_pos e2] at e; exact absurd rfl e
          · rw [if_neg e2] at e; exact K.sup t e
/-! A file's bytes. -/
theorem upd_dk {S : St} {T : Nat} (D : Dk S T) (n : Nat) (g : Fl → Fl) (hg : ∀ f, (g f).num = f.num) (hl : ∀ f, f.lasts ≤ f.bs.length → (g f).lasts ≤ (g f).bs.length) : Dk { S with files := updF S.files n g } T ∧
    ∀ k, fileAt (updF S.files n g) k = (fileAt S.files k).map fun f => if k = n then g f else f := by
  have hA : ∀ k, fileAt (updF S.files n g) k = (fileAt S.files k).map fun f => if k = n then g f else f := fun k => by
    rw [updF_at S.files n g hg k]
    cases h : fileAt S.files k with
    | none => rfl
    | some f =>
      have := (fileAt_mem h).2
      simp only [Option.map_some]
      by_cases e : f.num = n
      · rw [if_pos e, if_pos (by omega)]
      · rw [if_neg e, if_neg (by omega)]
  refine ⟨⟨D.hn, D.hl, D.cr, D.nm, fun f hf => ?_, fun N hN => ?_, D.sm, by show ((updF S.files n g).map (·.num)).Nodup; rw [updF_nums S.files n g hg]; exact D.ri⟩, hA⟩
  · obtain ⟨f0, h0, e⟩ := updF_mem hf
    have := D.fm f0 h0
    rw [e]
    split
    · exact ⟨by rw [hg]; exact this.1, by rw [hg]; exact this.2.1, hl _ this.2.2⟩
    · exact this
  · have K := D.all N hN
    refine ⟨fun t e => ?_, K.inj, K.sup⟩
    obtain ⟨f, hf⟩ := K.leads t e
    exact ⟨_, by rw [hA, hf]; rfl⟩
/-! What lasts. -/
theorem named_at {D : DataW Unit} (h : HL D) {s : ByteArray} (hs : lk D s ≠ 0) : isNamed D (fun _ => false) (lk D s) = true := by
  obtain ⟨p, hp, hk, ha⟩ := at_of_has ((h.has s).2 hs) (i64L 0)
  unfold isNamed
  refine List.any_eq_true.2 ⟨p, hp, ?_⟩
  have : numOf p.2 = lk D s := by unfold lk; rw [ha]
  simp [this]
theorem settle_at (S : St) {s : ByteArray} (h : HL S.names) (hs : lk S.names s ≠ 0) : fileAt (settleS S).files (lk S.names s) = fileAt S.files (lk S.names s) := by
  unfold settleS fileAt
  simp only
  rw [Maps.find_filter_keep]
  intro f hf
  have : (f.num : Int) = lk S.names s := by simpa using hf
  rw [this]
  exact named_at h hs
theorem settle_dk {S : St} {T : Nat} (D : Dk S T) : Dk (settleS S) T ∧ ∀ N, Outs (settleS S) N → N = lk S.names := by
  have hO : ∀ N, Outs (settleS S) N → N = lk S.names := fun N h => h
  refine ⟨⟨D.hn, D.hn, (fun c hc => absurd hc List.not_mem_nil), rfl, (fun f hf => D.fm f (List.mem_filter.1 hf).1), (fun N hN => ?_), D.sm, D.ri.sublist (List.Sublist.map _ List.filter_sublist)⟩, hO⟩
  have K := D.now
  rw [hO N hN]
  exact ⟨fun t e => by rw [settle_at S D.hn e]; exact K.leads t e, K.inj, K.sup⟩

end Go.Proofs.YtcahlmneancapaaGreatDoor.Clep

/- What each call of such a Disk comes to, and which errors it may tell. Up to 60 files, 250,000 bytes. -/
namespace Go.Proofs.YtcahlmneancapaaGreatDoor.Clep
open Go.RowKit Go.Maps Go.Sort
set_option linter.unusedVariables false
set_option maxRecDepth 10000

/-! How many names there are, and how many bytes they have. -/
theorem len_sub {α : Type} [DecidableEq α] : ∀ (l m : List α), l.Nodup → (∀ x ∈ l, x ∈ m) → l.length ≤ m.length
  | [], _, _, _ => Nat.zero_le _
  | x :: l, m, hn, hs => by
    rw [List.nodup_cons] at hn
    have hx := hs x List.mem_cons_self
    have := len_sub l (m.erase x) hn.2 (fun y hy => (List.mem_erase_of_ne (fun e => hn.1 (by rw [← show y = x from e]; exact hy))).2 (hs y (List.mem_cons_of_mem _ hy)))
    have h2 := List.length_erase_of_mem hx
    have h3 : 0 < m.length := List.length_pos_of_mem hx
    simp only [List.length_cons]
    omega
theorem pw_eq {p q : Lit × DataW Unit} : ∀ es : List (Lit × DataW Unit), es.Pairwise (fun p q => p.1 ≠ q.1) → p ∈ es → q ∈ es → p.1 = q.1 → p = q
  | [], _, h, _, _ => by cases h
  | x :: r, hT, hp, hq, e => by
    rw [List.pairwise_cons] at hT
    rcases List.mem_cons.1 hp with hp | hp
    · rcases List.mem_cons.1 hq with hq | hq
      · rw [hp, hq]
      · exact absurd (by rw [← hp]; exact e) (hT.1 q hq)
    · rcases List.mem_cons.1 hq with hq | hq
      · exact absurd (by rw [← hq]; exact e.symm) (hT.1 p hp)
      · exact pw_eq r hT.2 hp hq e
theorem entry_lk {D : DataW Unit} (h : HL D) {p : Lit × DataW Unit} (hp : p ∈ entries D) {s : ByteArray} (hs : p.1 = key s) : numOf p.2 = lk D s ∧ lk D s ≠ 0 := by
  obtain ⟨es, rfl, hT⟩ := h.tidy
  have hh : Maps.has (.map es) (key s) = true := by
    rw [Maps.has_eq]
    exact List.any_eq_true.2 ⟨p, hp, by rw [hs]; exact WideAt.sameKey_self (key_is s)⟩
  obtain ⟨q, hq, hk, ha⟩ := at_of_has hh (i64L 0)
  have e : p = q := pw_eq es hT hp hq (hs.trans hk.symm)
  refine ⟨?_, (h.has s).1 hh⟩
  rw [e]; unfold lk; rw [ha]
def namesOf (T : Nat) : List ByteArray := nCur :: nFrs :: (List.range T).map fun k => mnm (k + 1)
theorem okM_mem {T : Nat} {s : ByteArray} (h : okM T s) : s ∈ namesOf T := by
  rcases h with rfl | rfl | ⟨k, h1, h2, rfl⟩
  · simp [namesOf]
  · simp [namesOf]
  · refine List.mem_cons_of_mem _ (List.mem_cons_of_mem _ (List.mem_map.2 ⟨k - 1, List.mem_range.2 (by omega), by rw [show k - 1 + 1 = k by omega]⟩))
theorem few_keys {D : DataW Unit} {T : Nat} (h : HL D) (hs : ∀ s, lk D s ≠ 0 → okM T s) : Maps.size D ≤ T + 2 := by
  have hnd : ((entries D).map (·.1)).Nodup := by
    obtain ⟨es, rfl, hT⟩ := h.tidy
    exact List.pairwise_map.2 hT
  have hk : ∃ l : List ByteArray, (entries D).map (·.1) = l.map key ∧ ∀ s ∈ l, okM T s := by
    have : ∀ es : List (Lit × DataW Unit), (∀ p ∈ es, p ∈ entries D) → ∃ l : List ByteArray, es.map (·.1) = l.map key ∧ ∀ s ∈ l, okM T s := by
      intro es
      induction es with
      | nil => intro _; exact ⟨[], rfl, by simp⟩
      | cons p r ih =>
        intro hp
        obtain ⟨l, h1, h2⟩ := ih (fun q hq => hp q (List.mem_cons_of_mem _ hq))
        obtain ⟨s, es⟩ := h.keys p (hp p List.mem_cons_self)
        refine ⟨s :: l, by simp [h1, es], fun t ht => ?_⟩
        rcases List.mem_cons.1 ht with rfl | ht
        · exact hs _ (entry_lk h (hp p List.mem_cons_self) es).2
        · exact h2 t ht
    exact this _ (fun _ h => h)
  obtain ⟨l, e, hl⟩ := hk
  have hsz : Maps.size D = l.length := by
    have h1 : (entries D).length = l.length := by have := congrArg List.length e; simpa using this
    obtain ⟨es, rfl, _⟩ := h.tidy
    exact h1
  have hnl : l.Nodup := by
    rw [e] at hnd
    exact (List.pairwise_map.1 hnd).imp (fun {a b} h e => h (by rw [e]))
  have := len_sub l (namesOf T) hnl (fun s hs => okM_mem (hl s hs))
  rw [hsz]
  simpa [namesOf] using this
def totF (fs : List Fl) : Nat := (fs.map fun f => f.bs.length).sum
def tot (S : St) : Nat := totF S.files
theorem flen_cons (f : Fl) (r : List Fl) (n : Int) : flen (f :: r) n = if (f.num : Int) = n then f.bs.length else flen r n := by
  unfold flen fileAt
  rw [List.find?_cons]
  by_cases h : (f.num : Int) = n
  · simp [h]
  · have : ((f.num : Int) == n) = false := by simpa using h
    simp [this, h]
theorem flen_sum : ∀ (fs : List Fl) (ns : List Int), ns.Nodup → (ns.map (flen fs)).sum ≤ totF fs
  | [], ns, _ => by
    have : ∀ ns : List Int, (ns.map (flen [])).sum = 0 := by
      intro ns
      induction ns with
      | nil => rfl
      | cons n r ih => rw [List.map_cons, List.sum_cons, ih]; rfl
    rw [this]; exact Nat.zero_le _
  | f :: r, ns, hn => by
    have ih := flen_sum r ns hn
    have h2 : ∀ ns : List Int, ns.Nodup → (ns.map (flen (f :: r))).sum ≤ (ns.map (flen r)).sum + f.bs.length ∧ ((f.num : Int) ∉ ns → (ns.map (flen (f :: r))).sum = (ns.map (flen r)).sum) := by
      intro ns
      induction ns with
      | nil => intro _; simp
      | cons n m ihn =>
        intro hn
        rw [List.nodup_cons] at hn
        obtain ⟨i1, i2⟩ := ihn hn.2
        simp only [List.map_cons, List.sum_cons, flen_cons f r n]
        by_cases e : (f.num : Int) = n
        · have := i2 (by rw [e]; exact hn.1)
          rw [if_pos e]
          exact ⟨by omega, fun hm => absurd (by rw [e]; exact List.mem_cons_self) hm⟩
        · rw [if_neg e]
          exact ⟨by omega, fun hm => by rw [i2 (fun h => hm (List.mem_cons_of_mem _ h))]⟩
    have := (h2 ns hn).1
    show _ ≤ totF (f :: r)
    unfold totF at ih ⊢
    simp only [List.map_cons, List.sum_cons]
    omega
theorem used_tot {S : St} {T : Nat} (D : Dk S T) : usedS S ≤ tot S := by
  have e : usedS S = (((entries S.names).map fun p => numOf p.2).map (flen S.files)).sum := by
    unfold usedS; rw [List.map_map]; rfl
  rw [e]
  refine flen_sum _ _ ?_
  obtain ⟨es, he, hT⟩ := D.hn.tidy
  have hen : entries S.names = es := by rw [he]; rfl
  rw [hen]
  refine List.pairwise_map.2 (hT.imp_of_mem (fun {p q} hp hq h e => ?_))
  obtain ⟨s, hs⟩ := D.hn.keys p (by rw [hen]; exact hp)
  obtain ⟨t, ht⟩ := D.hn.keys q (by rw [hen]; exact hq)
  have h1 := entry_lk D.hn (by rw [hen]; exact hp) hs
  have h2 := entry_lk D.hn (by rw [hen]; exact hq) ht
  rw [h1.1, h2.1] at e
  have := D.now.inj s t h1.2 e
  exact h (by rw [hs, ht, this])
theorem tot_upd_len (fs : List Fl) (n : Nat) (g : Fl → Fl) (k : Nat) (hn : (fs.map (·.num)).Nodup) (hg : ∀ f, (g f).bs.length ≤ f.bs.length + k) : totF (updF fs n g) ≤ totF fs + k := by
  unfold totF updF
  have : ∀ fs : List Fl, (fs.map (·.num)).Nodup → ((fs.map fun f => if f.num = n then g f else f).map fun f => f.bs.length).sum ≤ (fs.map fun f => f.bs.length).sum + k ∧ (n ∉ fs.map (·.num) → ((fs.map fun f => if f.num = n then g f else f).map fun f => f.bs.length).sum = (fs.map fun f => f.bs.length).sum) := by
    intro fs
    induction fs with
    | nil => intro _; simp
    | cons f r ih =>
      intro hn
      simp only [List.map_cons, List.nodup_cons] at hn
      obtain ⟨i1, i2⟩ := ih hn.2
      simp only [List.map_cons, List.sum_cons]
      by_cases e : f.num = n
      · have := i2 (by rw [← e]; exact hn.1)
        have := hg f
        rw [if_pos e]
        exact ⟨by omega, fun hm => absurd (by rw [e]; exact List.mem_cons_self) hm⟩
      · rw [if_neg e]
        exact ⟨by omega, fun hm => by rw [i2 (fun h => hm (List.mem_cons_of_mem _ h))]⟩
  exact (this fs hn).1

theorem le_sum : ∀ (l : List Nat) (x : Nat), x ∈ l → x ≤ l.sum
  | [], _, h => by cases h
  | y :: r, x, h => by
    rw [List.sum_cons]
    rcases List.mem_cons.1 h with h | h
    · omega
    · have := le_sum r x h; omega
/-! Which errors a call may tell: behind a failure that was set, or a death. -/
structure Md (S : St) (E : Nat) (S' : St) : Prop where
  fm : S.stop = 0 → S.dead = false → S'.stop = 0 ∧ S'.dead = false ∧ (E = 0 ∨ E = 15 ∧ S'.fail = 0)
  sm : S.fail = 0 → S'.fail = 0 ∧ (E = 0 ∨ E = 50 ∧ S'.dead = true)
  dd : S.dead = true → S'.dead = true ∧ E = 50
theorem md_begin (S : St) : Md S (beginS S).1 (beginS S).2 := by
  unfold beginS
  by_cases hd : S.dead = true
  · rw [if_pos hd]
    exact ⟨(fun _ h => absurd (hd.symm.trans h) (by simp)), (fun h => ⟨h, .inr ⟨rfl, hd⟩⟩), (fun _ => ⟨hd, rfl⟩)⟩
  · rw [if_neg hd]
    refine ⟨fun h1 h2 => ⟨by show S.stop - 1 = 0; omega, by show decide (S.stop = 1) = false; simp; omega, ?_⟩, fun h => ⟨by show S.fail - 1 = 0; omega, .inl (by show (if S.fail = 1 then 15 else 0) = 0; rw [if_neg (by omega)])⟩, fun h => absurd h hd⟩
    show (if S.fail = 1 then 15 else 0) = 0 ∨ (if S.fail = 1 then 15 else 0) = 15 ∧ S.fail - 1 = 0
    by_cases h : S.fail = 1
    · exact .inr ⟨by rw [if_pos h], by omega⟩
    · exact .inl (by rw [if_neg h])
/-- Two in which the same is counted. -/
def Sc (S S' : St) : Prop := S'.stop = S.stop ∧ S'.fail = S.fail ∧ S'.dead = S.dead ∧ S'.calls = S.calls
theorem Md.sc {S S1 S2 : St} {E : Nat} (h : Md S E S1) (k : Sc S1 S2) : Md S E S2 := by
  obtain ⟨a, b, c, d⟩ := k
  exact ⟨by rw [a, b, c]; exact h.fm, by rw [b, c]; exact h.sm, by rw [c]; exact h.dd⟩
theorem Md.trans {S S1 S2 : St} {E : Nat} (h : Md S 0 S1) (k : Md S1 E S2) : Md S E S2 :=
  ⟨fun a b => k.fm (h.fm a b).1 (h.fm a b).2.1, fun a => k.sm (h.sm a).1, fun a => absurd (h.dd a).2 (by decide)⟩
/-- What one call of the Disk comes to. -/
structure Opr (S : St) (E : Nat) (S' : St) (R : St → St) : Prop where
  md : Md S E S'
  calls : S'.calls = S.calls + 1
  res : (E ≠ 0 ∧ Eqf S S') ∨ (E = 0 ∧ ∃ B, Eqf S B ∧ S' = R B)
theorem opr_of {S S' : St} {E : Nat} {R : St → St} (hR : Sc (beginS S).2 (R (beginS S).2)) (e : (if (beginS S).1 ≠ 0 then beginS S else (0, R (beginS S).2)) = (E, S')) : Opr S E S' R := by
  have hc := (begin_keeps S).1
  split at e
  · rename_i h
    have h1 : (beginS S).1 = E := by rw [e]
    have h2 : (beginS S).2 = S' := by rw [e]
    rw [h1] at h
    exact ⟨by rw [← h1, ← h2]; exact md_begin S, by rw [← h2]; exact hc, .inl ⟨h, by rw [← h2]; exact eqf_begin S⟩⟩
  · rename_i h
    have h : (beginS S).1 = 0 := Classical.byContradiction h
    injection e with e1 e2
    subst e1 e2
    have hm := md_begin S
    rw [h] at hm
    exact ⟨hm.sc hR, by rw [hR.2.2.2]; exact hc, .inr ⟨rfl, _, eqf_begin S, rfl⟩⟩
theorem create_op {S S' : St} {T E : Nat} {s : ByteArray} (D : Dk S T) (hok : okName s = true) (h0 : S.dead = false → lk S.names s = 0) (e : createS S s = (E, S')) : Opr S E S' (fun B => addS B s) := by
  by_cases hb : (beginS S).1 = 0
  · have hd : S.dead = false := by
      cases h : S.dead with
      | false => rfl
      | true => have := ((md_begin S).dd h).2; omega
    obtain ⟨k1, k2, k3, k4, k5, k6, k7⟩ := begin_keeps S
    refine opr_of ⟨rfl, rfl, rfl, rfl⟩ ?_
    rw [← e]
    unfold createS
    rw [if_neg (show ¬ (beginS S).1 ≠ 0 from fun h => h hb), if_neg (show ¬ okName s = false by rw [hok]; simp), if_neg (show ¬ (beginS S).1 ≠ 0 from fun h => h hb), k3, k4, h0 hd, D.zero]
    have := few_keys D.hn D.now.sup
    have := D.sm
    rw [if_neg (by simp), if_neg (by omega)]
  · refine opr_of ⟨rfl, rfl, rfl, rfl⟩ ?_
    rw [← e]
    unfold createS
    rw [if_pos hb, if_neg (show ¬ okName s = false by rw [hok]; simp), if_pos hb]
theorem append_op {S S' : St} {T E : Nat} {s : ByteArray} {f : Fl} {zs : List Int} (D : Dk S T) (hok : okName s = true) (hf : fileAt S.files (lk S.names s) = some f) (hq : tot S + zs.length ≤ 250000) (hq2 : tot S + zs.length ≤ S.q) (e : appendS S s zs = (E, S')) : Opr S E S' (fun B => { B with files := updF B.files f.num (growF zs) }) := by
  refine opr_of ⟨rfl, rfl, rfl, rfl⟩ ?_
  rw [← e]
  unfold appendS
  by_cases hb : (beginS S).1 = 0
  · obtain ⟨k1, k2, k3, k4, k5, k6, k7⟩ := begin_keeps S
    have hu : usedS (beginS S).2 = usedS S := by unfold usedS; rw [k3, k4]
    have h1 := used_tot D
    have h2 : f.bs.length ≤ tot S := by
      have hm := (fileAt_mem hf).1
      unfold tot totF
      exact le_sum _ _ (List.mem_map.2 ⟨f, hm, rfl⟩)
    rw [if_neg (show ¬ (beginS S).1 ≠ 0 from fun h => h hb), if_neg (show ¬ okName s = false by rw [hok]; simp), if_neg (show ¬ (beginS S).1 ≠ 0 from fun h => h hb), k3, k4, hf]
    simp only
    rw [if_neg (by omega), k7, hu, if_neg (by omega), k4]
  · rw [if_pos hb, if_neg (show ¬ okName s = false by rw [hok]; simp), if_pos hb]
theorem sync_op {S S' : St} {E : Nat} {s : ByteArray} {f : Fl} (hok : okName s = true) (hf : fileAt S.files (lk S.names s) = some f) (e : syncS S s = (E, S')) : Opr S E S' (fun B => { B with files := updF B.files f.num lastF }) := by
  refine opr_of ⟨rfl, rfl, rfl, rfl⟩ ?_
  rw [← e]
  unfold syncS
  by_cases hb : (beginS S).1 = 0
  · obtain ⟨k1, k2, k3, k4, k5, k6, k7⟩ := begin_keeps S
    rw [if_neg (show ¬ (beginS S).1 ≠ 0 from fun h => h hb), if_neg (show ¬ okName s = false by rw [hok]; simp), if_neg (show ¬ (beginS S).1 ≠ 0 from fun h => h hb), k3, k4, hf]
    simp only [k4]
  · rw [if_pos hb, if_neg (show ¬ okName s = false by rw [hok]; simp), if_pos hb]
theorem remove_op {S S' : St} {E : Nat} {s : ByteArray} {f : Fl} (hok : okName s = true) (hf : fileAt S.files (lk S.names s) = some f) (e : rmvS S s = (E, S')) : Opr S E S' (fun B => chgS B ⟨2, s, ⟨#[]⟩, 0⟩) := by
  refine opr_of ⟨rfl, rfl, rfl, rfl⟩ ?_
  rw [← e]
  unfold rmvS
  by_cases hb : (beginS S).1 = 0
  · obtain ⟨k1, k2, k3, k4, k5, k6, k7⟩ := begin_keeps S
    rw [if_neg (show ¬ (beginS S).1 ≠ 0 from fun h => h hb), if_neg (show ¬ okName s = false by rw [hok]; simp), if_neg (show ¬ (beginS S).1 ≠ 0 from fun h => h hb), k3, k4, hf]
    rw [if_neg (by simp)]
    simp only [chgS, k4]
  · rw [if_pos hb, if_neg (show ¬ okName s = false by rw [hok]; simp), if_pos hb]
theorem rename_op {S S' : St} {E : Nat} {a b : ByteArray} {f : Fl} (hok : okName a = true) (hok2 : okName b = true) (hab : a ≠ b) (hf : fileAt S.files (lk S.names a) = some f) (e : renS S a b = (E, S')) : Opr S E S' (fun B => chgS B ⟨1, a, b, 0⟩) := by
  refine opr_of ⟨rfl, rfl, rfl, rfl⟩ ?_
  rw [← e]
  unfold renS
  by_cases hb : (beginS S).1 = 0
  · obtain ⟨k1, k2, k3, k4, k5, k6, k7⟩ := begin_keeps S
    rw [if_neg (show ¬ (beginS S).1 ≠ 0 from fun h => h hb), if_neg (show ¬ (okName a = false ∨ okName b = false) by rw [hok, hok2]; simp), if_neg (show ¬ (beginS S).1 ≠ 0 from fun h => h hb), k3, k4, hf]
    rw [if_neg (by simp), if_neg hab]
    simp only [chgS, k4]
  · rw [if_pos hb, if_neg (show ¬ (okName a = false ∨ okName b = false) by rw [hok, hok2]; simp), if_pos hb]
theorem syncDir_op {S S' : St} {E : Nat} (e : syncDirS S = (E, S')) : Opr S E S' settleS := by
  refine opr_of ⟨rfl, rfl, rfl, rfl⟩ ?_
  rw [← e]
  unfold syncDirS
  rfl

end Go.Proofs.YtcahlmneancapaaGreatDoor.Clep

/- Which file counts, whatever a loss of power leaves, and what calls on other names leave of that. No conditions but those of the Disk. -/
namespace Go.Proofs.YtcahlmneancapaaGreatDoor.Clep
open Go.RowKit Go.Maps Go.Sort
set_option linter.unusedVariables false
set_option maxRecDepth 10000

/-- Of the names N current leads to man.n, whose bytes are X, of which L last; le n: current's bytes. -/
def Am (le : Nat → List Int) (fs : List Fl) (N : ByteArray → Int) (n : Nat) (X : List Int) (L : Nat) : Prop := ∃ g f, fileAt fs (N nCur) = some g ∧ g.bs = le n ∧ g.lasts = g.bs.length ∧ fileAt fs (N (mnm n)) = some f ∧ f.bs = X ∧ f.lasts = L
/-- Whatever a loss of power leaves leads to man.n, a file that is the same one for all. -/
structure Solo (le : Nat → List Int) (S : St) (n : Nat) (X : List Int) (L : Nat) : Prop where
  all : ∃ x : Int, ∀ N, Outs S N → N (mnm n) = x ∧ Am le S.files N n X L
  low : 1 ≤ n ∧ n < 100
/-- A file that leads nowhere but by this name. -/
def Ow (S : St) (x : Int) (s : ByteArray) : Prop := ∀ N, Outs S N → ∀ t, N t = x → t = s
/-- The name leads to a file of its own, of these bytes, which last. -/
def Slot (S : St) (s : ByteArray) (zs : List Int) (L : Nat) : Prop := ∃ f, fileAt S.files (lk S.names s) = some f ∧ f.bs = zs ∧ f.lasts = L ∧ Ow S (lk S.names s) s
/-- What the calls on the name s leave of all else. -/
structure Kpt (s : ByteArray) (S S' : St) : Prop where
  live : ∀ t, t ≠ s → lk S'.names t = lk S.names t
  file : ∀ t, t ≠ s → lk S.names t ≠ 0 → fileAt S'.files (lk S.names t) = fileAt S.files (lk S.names t)
  slot : ∀ t zs L, t ≠ s → Slot S t zs L → Slot S' t zs L
  solo : ∀ le n X L, s ≠ nCur → s ≠ mnm n → Solo le S n X L → Solo le S' n X L
  q : S'.q = S.q
theorem Kpt.refl (s : ByteArray) (S : St) : Kpt s S S := ⟨fun _ _ => rfl, fun _ _ _ => rfl, fun _ _ _ _ h => h, fun _ _ _ _ _ _ h => h, rfl⟩
theorem Kpt.trans {s : ByteArray} {A B C : St} (h : Kpt s A B) (k : Kpt s B C) : Kpt s A C :=
  ⟨fun t ht => (k.live t ht).trans (h.live t ht), fun t ht h0 => by rw [← h.file t ht h0, ← h.live t ht]; exact k.file t ht (by rw [h.live t ht]; exact h0),
   fun t zs L ht hs => k.slot t zs L ht (h.slot t zs L ht hs), fun le n X L h1 h2 hs => k.solo le n X L h1 h2 (h.solo le n X L h1 h2 hs), k.q.trans h.q⟩
theorem Eqf.kp {S S' : St} (h : Eqf S S') (s : ByteArray) : Kpt s S S' :=
  ⟨fun t _ => by rw [h.names], fun t _ _ => by rw [h.files], fun t zs L _ hs => by unfold Slot Ow at *; rw [h.files, h.names, h.outs]; exact hs, fun le n X L _ _ hs => ⟨by have := hs.all; rw [h.files, h.outs]; exact this, hs.low⟩, h.q⟩
theorem slot_fl {S : St} {T : Nat} (D : Dk S T) {s : ByteArray} {zs : List Int} {L : Nat} (h : Slot S s zs L) : lk S.names s ≠ 0 := by
  obtain ⟨f, hf, _⟩ := h
  intro e
  rw [e, D.zero] at hf
  cases hf
theorem at_fl {S : St} {T : Nat} (D : Dk S T) {le : Nat → List Int} {N : ByteArray → Int} {n : Nat} {X : List Int} {L : Nat} (h : Am le S.files N n X L) : N nCur ≠ 0 ∧ N (mnm n) ≠ 0 ∧ N nCur ≤ S.made ∧ N (mnm n) ≤ S.made := by
  obtain ⟨g, f, h1, _, _, h4, _, _⟩ := h
  have a := D.last h1
  have b := D.last h4
  omega
/-- A name is made. -/
theorem add_kp {S : St} {T T' : Nat} {s : ByteArray} (D : Dk S T) (ht : T ≤ T') (h6 : T' ≤ 60) (hs : okM T' s) : Kpt s S (addS S s) ∧ Slot (addS S s) s [] 0 ∧ Dk (addS S s) T' ∧ lk (addS S s).names s ≠ 0 ∧ tot (addS S s) = tot S := by
  obtain ⟨h1, h2, h3⟩ := add_dk D ht h6 hs
  have hA := at_add S s (fun f hf => (D.fm f hf).2.1)
  have hle : ∀ N, Outs S N → ∀ t, N t ≤ S.made := fun N hN t => by
    by_cases e : N t = 0
    · omega
    · obtain ⟨f, hf⟩ := (D.all N hN).leads t e
      have := D.last hf
      omega
  have hls : lk (addS S s).names s = ((S.made + 1 : Nat) : Int) := by rw [h2]; simp
  refine ⟨⟨fun t ht => by rw [h2]; simp [ht], fun t ht h0 => ?_, fun t zs L ht hsl => ?_, fun le n X L hc hm hso => ?_, rfl⟩, ⟨⟨S.made + 1, [], 0⟩, ?_, rfl, rfl, fun N hN t e => ?_⟩, h1, by rw [hls]; omega, ?_⟩
  · rw [hA, if_neg (by have := hle _ D.nm t; omega)]
  · obtain ⟨f, hf, e1, e2, e3⟩ := hsl
    have h0 := slot_fl D ⟨f, hf, e1, e2, e3⟩
    have hlt : lk (addS S s).names t = lk S.names t := by rw [h2]; simp [ht]
    have hm := hle _ D.nm t
    refine ⟨f, by rw [hlt, hA, if_neg (by omega)]; exact hf, e1, e2, fun N hN u e => ?_⟩
    rw [hlt] at e
    rcases h3 N hN with hN | ⟨M, hM, rfl⟩
    · exact e3 N hN u e
    · simp only at e
      by_cases hu : u = s
      · rw [if_pos hu] at e; omega
      · rw [if_neg hu] at e; exact e3 M hM u e
  · obtain ⟨x, hx⟩ := hso.all
    refine ⟨⟨x, fun N hN => ?_⟩, hso.low⟩
    have key : ∀ M, Outs S M → ∀ N : ByteArray → Int, N nCur = M nCur → N (mnm n) = M (mnm n) → N (mnm n) = x ∧ Am le (addS S s).files N n X L := fun M hM N e1 e2 => by
      obtain ⟨ha, g, f, q1, q2, q3, q4, q5, q6⟩ := hx M hM
      have hl := at_fl D ⟨g, f, q1, q2, q3, q4, q5, q6⟩
      refine ⟨e2.trans ha, g, f, ?_, q2, q3, ?_, q5, q6⟩
      · rw [hA, e1, if_neg (by omega)]; exact q1
      · rw [hA, e2, if_neg (by omega)]; exact q4
    rcases h3 N hN with hN | ⟨M, hM, rfl⟩
    · exact key N hN N rfl rfl
    · exact key M hM (fun t => if t = s then ((S.made + 1 : Nat) : Int) else M t) (if_neg hc.symm) (if_neg hm.symm)
  · rw [hls, hA, if_pos (by omega)]
  · rw [hls] at e
    rcases h3 N hN with hN | ⟨M, hM, rfl⟩
    · have := hle N hN t; omega
    · simp only at e
      by_cases hu : t = s
      · exact hu
      · rw [if_neg hu] at e; have := hle M hM t; omega
  · unfold tot totF addS; simp
/-- A name is struck. -/
theorem rmv_kp {S : St} {T : Nat} (D : Dk S T) (s : ByteArray) : Kpt s S (chgS S ⟨2, s, ⟨#[]⟩, 0⟩) ∧ Dk (chgS S ⟨2, s, ⟨#[]⟩, 0⟩) T ∧ lk (chgS S ⟨2, s, ⟨#[]⟩, 0⟩).names s = 0 := by
  obtain ⟨h1, h2, h3⟩ := rmv_dk D s
  refine ⟨⟨fun t ht => by rw [h2]; simp [ht], fun t ht h0 => rfl, fun t zs L ht hsl => ?_, fun le n X L hc hm hso => ?_, rfl⟩, h1, by rw [h2]; simp⟩
  · have h0 := slot_fl D hsl
    obtain ⟨f, hf, e1, e2, e3⟩ := hsl
    have hlt : lk (chgS S ⟨2, s, ⟨#[]⟩, 0⟩).names t = lk S.names t := by rw [h2]; simp [ht]
    refine ⟨f, by rw [hlt]; exact hf, e1, e2, fun N hN u e => ?_⟩
    rw [hlt] at e
    rcases h3 N hN with hN | ⟨M, hM, rfl⟩
    · exact e3 N hN u e
    · simp only at e
      by_cases hu : u = s
      · rw [if_pos hu] at e; exact absurd e.symm h0
      · rw [if_neg hu] at e; exact e3 M hM u e
  · obtain ⟨x, hx⟩ := hso.all
    refine ⟨⟨x, fun N hN => ?_⟩, hso.low⟩
    rcases h3 N hN with hN | ⟨M, hM, rfl⟩
    · exact hx N hN
    · obtain ⟨ha, g, f, q1, q2, q3, q4, q5, q6⟩ := hx M hM
      have c1 : (fun t => if t = s then (0 : Int) else M t) nCur = M nCur := if_neg (fun e => hc e.symm)
      have c2 : (fun t => if t = s then (0 : Int) else M t) (mnm n) = M (mnm n) := if_neg (fun e => hm e.symm)
      exact ⟨c2.trans ha, g, f, by rw [c1]; exact q1, q2, q3, by rw [c2]; exact q4, q5, q6⟩
/-- A file's bytes change. -/
theorem upd_kp {S : St} {T : Nat} (D : Dk S T) {s : ByteArray} {f : Fl} {g : Fl → Fl} (hf : fileAt S.files (lk S.names s) = some f) (ho : Ow S (lk S.names s) s) (hg : ∀ f, (g f).num = f.num) (hl : ∀ f, f.lasts ≤ f.bs.length → (g f).lasts ≤ (g f).bs.length) :
    Kpt s S { S with files := updF S.files f.num g } ∧ Dk { S with files := updF S.files f.num g } T ∧ Slot { S with files := updF S.files f.num g } s (g f).bs (g f).lasts ∧ ∀ k, (∀ f, (g f).bs.length ≤ f.bs.length + k) → tot { S with files := updF S.files f.num g } ≤ tot S + k := by
  obtain ⟨h1, hA⟩ := upd_dk D f.num g hg hl
  have hn : lk S.names s = f.num := (D.last hf).1
  have hne : ∀ N, Outs S N → ∀ t, t ≠ s → N t ≠ 0 → fileAt (updF S.files f.num g) (N t) = fileAt S.files (N t) := fun N hN t ht h0 => by
    rw [hA]
    cases h : fileAt S.files (N t) with
    | none => rfl
    | some f' =>
      simp only [Option.map_some]
      rw [if_neg (fun e => ht (ho N hN t (by rw [hn]; exact e)))]
  refine ⟨⟨fun t _ => rfl, fun t ht h0 => hne _ D.nm t ht h0, fun t zs L ht hsl => ?_, fun le n X L hc hm hso => ?_, rfl⟩, h1, ⟨g f, ?_, rfl, rfl, ho⟩, fun k hk => tot_upd_len _ _ _ _ D.ri hk⟩
  · have h0 := slot_fl D hsl
    obtain ⟨f', hf', e1, e2, e3⟩ := hsl
    exact ⟨f', (hne _ D.nm t ht h0).trans hf', e1, e2, e3⟩
  · obtain ⟨x, hx⟩ := hso.all
    refine ⟨⟨x, fun N hN => ?_⟩, hso.low⟩
    have hN' : Outs S N := hN
    obtain ⟨ha, g', f', q1, q2, q3, q4, q5, q6⟩ := hx N hN'
    have hl := at_fl D ⟨g', f', q1, q2, q3, q4, q5, q6⟩
    exact ⟨ha, g', f', (hne N hN' _ (fun e => hc e.symm) hl.1).trans q1, q2, q3, (hne N hN' _ (fun e => hm e.symm) hl.2.1).trans q4, q5, q6⟩
  · show fileAt (updF S.files f.num g) (lk S.names s) = _
    rw [hA, hf]
    simp [hn]
theorem tot_filter (fs : List Fl) (p : Fl → Bool) : totF (fs.filter p) ≤ totF fs := by
  unfold totF
  induction fs with
  | nil => exact Nat.le_refl _
  | cons f r ih =>
    rw [List.filter_cons]
    split <;> simp only [List.map_cons, List.sum_cons] <;> omega
/-- The names last. -/
theorem settle_kp {S : St} {T : Nat} (D : Dk S T) (s : ByteArray) : Kpt s S (settleS S) ∧ Dk (settleS S) T ∧ tot (settleS S) ≤ tot S := by
  obtain ⟨h1, h2⟩ := settle_dk D
  refine ⟨⟨fun t _ => rfl, fun t ht h0 => settle_at S D.hn h0, fun t zs L ht hsl => ?_, fun le n X L hc hm hso => ?_, rfl⟩, h1, tot_filter _ _⟩
  · have h0 := slot_fl D hsl
    obtain ⟨f', hf', e1, e2, e3⟩ := hsl
    exact ⟨f', (settle_at S D.hn h0).trans hf', e1, e2, fun N hN u e => by rw [h2 N hN] at e; exact e3 _ D.nm u e⟩
  · obtain ⟨x, hx⟩ := hso.all
    refine ⟨⟨x, fun N hN => ?_⟩, hso.low⟩
    rw [h2 N hN]
    obtain ⟨ha, g', f', q1, q2, q3, q4, q5, q6⟩ := hx _ D.nm
    have hl := at_fl D ⟨g', f', q1, q2, q3, q4, q5, q6⟩
    exact ⟨ha, g', f', (settle_at S D.hn hl.1).trans q1, q2, q3, (settle_at S D.hn hl.2.1).trans q4, q5, q6⟩

end Go.Proofs.YtcahlmneancapaaGreatDoor.Clep
