/- What List of a Disk does when called (a walk over the translated program): for any Disk of at most 2^40 calls: its names, by bytes. -/
import Derived.Test.YtfogfpanfhmijaaGreatYj
import Derived.Test.YtfogfpanfhmijaaGreatYm
import Derived.Test.YtfogfpanfhmijaaGreatYl
namespace Go.Proofs.YtfogfpanfhmijaaGreat.Clep
open Go.RowKit Go.Maps Go.Sort Go.Shelf
set_option linter.unusedVariables false

theorem keysS_any (b : Nat) (w : World) : Calls Tryz.prog 71 #[.map (some b)] w fun e w' => e = .returned (.func (.func 79) #[] #[.pointer (some ⟨w.heap.size, 0, none⟩)]) ∧ w' = w.alloc (.cells #[.map (some b)] 43) :=
  (callsIn_wide (n := 5)).1 (AnyZ.keys_in Tryz.keysS Fence.wide 5 trivial rfl (some b) w)
theorem sortsS (m : Nat) : AnyZ.SortsIn Tryz.prog Tryz.sortedS_ren Fence.wide m :=
  ⟨fun blk off cap ss W hH hblk hsz => callsIn_wide.2 (AnyM.slices_Sort_string Tryz.sortS blk off cap ss W hH hblk hsz),
   fun p cap W => callsIn_wide.2 (AnyM.slices_Sort_string_none Tryz.sortS p cap W)⟩
set_option maxHeartbeats 1000000 in
theorem sortedS_any (b nn : Nat) (D : DataW Unit) (w : World) (hown : w.ownsMap Tryz.prog 9 (plainElem Tryz.prog 3) b nn D) (hmax : Maps.size D ≤ maxLen) (hbytes : Maps.size D * 16 ≤ 140737488355328) :
    Calls Tryz.prog 70 #[.func (.func 79) #[] #[.pointer (some ⟨w.heap.size, 0, none⟩)]] (w.alloc (.cells #[.map (some b)] 43)) fun e w' => ∃ (v : Value) (ss : List (List UInt8)), e = .returned v ∧ ss.Perm (strKeys D) ∧
      w'.ownsRow (w.heap.size + 1) 9 1 v ss.length ((ss.mergeSort leB).map encStr) ∧ Below (w.heap.size + 1) (w.alloc (.cells #[.map (some b)] 43)) w' := by
  have hbl := hown.lt
  have hseq : SeqGives Fence.wide 2 Tryz.prog 79 #[.pointer (some ⟨w.heap.size, 0, none⟩)] encStr (fun ss => ss.Perm (strKeys D)) (Maps.size D) (w.alloc (.cells #[.map (some b)] 43)) :=
    AnyZ.keys_gives (ρ := Tryz.keysS_ren) { Tryz.keysS with } Fence.wide _ trivial rfl (by omega) w.heap.size b nn D _ (by simp) (by simp) (by
      obtain ⟨es, clock, hb, Ft, hs, hD⟩ := hown
      exact ⟨es, clock, (Below.heap_alloc _ _ b hbl).trans hb, Ft, hs, hD⟩)
  have cS := AnyZ.sorted_in Tryz.sortedS Fence.wide 5 trivial trivial trivial trivial rfl (by omega) (sortsS _) (enters_of Tryz.func78 (by kernel_rfl) rfl) 79 #[.pointer (some ⟨w.heap.size, 0, none⟩)] trivial (enters_of Tryz.func79 (by kernel_rfl) rfl) _ _ hmax hbytes _ hseq
  change CallsIn _ _ Tryz.prog 70 _ _ _ at cS
  refine ((callsIn_wide (n := 5)).1 cS).mono ?_
  rintro e w' ⟨v, ss, rfl, hS, hrow, hnil, hb⟩
  have hsz : (w.alloc (.cells #[.map (some b)] 43)).heap.size = w.heap.size + 1 := by simp
  rw [hsz] at hrow hb
  exact ⟨v, ss, rfl, hS, hrow, hb⟩

def namesL (S : St) : List (List UInt8) := (strKeys S.names).mergeSort leB
theorem row_below {w w' : World} {B e sz n : Nat} {v : Value} {xs : List Value} (h : w.ownsRow B e sz v n xs) (hb : Below w.heap.size w w') : w'.ownsRow B e sz v n xs :=
  owns_keep (τ := fun _ => 0) (t := fun _ => False) (Turn.of_below hb _) h (fun _ _ h => h)
theorem row_base {w : World} {B C e sz n : Nat} {v : Value} {xs : List Value} (h : w.ownsRow B e sz v n xs) (hc : C ≤ B) : w.ownsRow C e sz v n xs := by
  obtain ⟨hl, ⟨rfl, hn⟩ | ⟨g, cap, cur, rfl, hg, r⟩⟩ := h
  · exact ⟨hl, .inl ⟨rfl, hn⟩⟩
  · exact ⟨hl, .inr ⟨g, cap, cur, rfl, Nat.le_trans hc hg, r⟩⟩
set_option maxHeartbeats 400000 in
theorem list_h {F : Nat → Prop} {R : Nat} {S : St} {w : World} (h : Held F w R S) (hd : S.dead = false) (hm : S.calls ≤ 1099511627776) (hL : ∀ l ∈ namesL S, l.length ≤ 70368744177664) :
    Calls Tryz.prog 47 #[.pointer (some ⟨R, 0, none⟩)] w fun e w' => ∃ so sc, e = .returned (.slice so (namesL S).length sc) ∧ w'.ownsRow w.heap.size 9 1 (.slice so (namesL S).length sc) (namesL S).length ((namesL S).map encStr) ∧ Held F w' R S ∧ Below w.heap.size w w' := by
  have HH := hide h
  obtain ⟨G, D, hF⟩ := h
  have c4 := D.cells.1.2.2.2.2
  rw [hd] at c4
  have c7 := D.cells.2.1.2.2.1
  have hsz := D.ok.szn
  have SO := hide (sortedS_any G.bn _ S.names w D.nm (by unfold maxLen; omega) (by omega))
  have HL := hide hL
  clear D hF hL
  go_enter Tryz.func47, Tryz.ntmps47
  go_wp2_with fail
  refine (keysS_any _ _).mono ?_
  rintro e w1 ⟨rfl, rfl⟩
  go_wp2_with fail
  refine SO.out.mono ?_
  rintro e w2 ⟨v, ss, rfl, hS, hrow, hb2⟩
  have hms : ss.mergeSort leB = namesL S := mergeSort_of_perm hS
  have hln : ss.length = (namesL S).length := by rw [← hms]; exact (List.length_mergeSort ss).symm
  rw [hms, hln] at hrow
  obtain ⟨so, sc, rfl, hsc, hcell⟩ := row_slice hrow
  have HR := hide (row_base hrow (Nat.le_succ _))
  have HB := hide (((Below.refl w.heap.size w).alloc (Nat.le_refl _) (.cells #[.map (some G.bn)] 43)).trans (hb2.mono (Nat.le_succ _)))
  have hlm : (namesL S).length ≤ 1099511627776 := by
    have := hS.length_eq
    rw [hln] at this
    have h2 : (strKeys S.names).length = Maps.size S.names := by
      cases S.names <;> simp [strKeys, Maps.size]
    omega
  clear hrow hb2 hS hms hln SO hcell c4 c7
  generalize hNL : namesL S = NL at *
  have hNL' := hide hNL
  clear hNL
  go_wp2_with fail
  go_loopw [18] (fun i wr => ∃ k : Nat, i = .int .i64 k ∧ k ≤ NL.length ∧ Hid (wr.ownsRow w.heap.size 9 1 (.slice so NL.length sc) NL.length (NL.map encStr)) ∧ Hid (Below w.heap.size w wr)) (fun i _ => NL.length - (intOf i).toNat)
  case atStart => exact ⟨0, rfl, by omega, HR, HB⟩
  case round =>
    obtain ⟨k, rfl, hk, hown, hbel⟩ := hrel
    by_cases hlt : k < NL.length
    · obtain ⟨so', sc', e', hsc', hcell⟩ := row_slice hown.out
      injection e' with e1 e2 e3
      subst e1 e3
      obtain ⟨g, rfl, hgc⟩ := hcell (by omega)
      have hck : wr.cell? ⟨g, k, none⟩ = some (encStr NL[k]) := hgc k _ (by simp [hlt])
      have hfr := hown.out.frozenAt k
      have hgl : g < wr.heap.size := World.block_lt_of_cell? wr _ hck
      have CL := hide (strClone_any ⟨NL[k].toArray⟩ wr (by have := HL.out _ (List.getElem_mem hlt); simpa [ByteArray.size] using this))
      simp only [encStr] at hck
      have HX := hide (show (NL.map encStr).set k (encStr NL[k]) = NL.map encStr by
        rw [show encStr NL[k] = (NL.map encStr)[k]'(by simpa using hlt) from by simp, List.set_getElem_self])
      have HG := hide (show w.heap.size ≤ g from (World.ownsRow.lt hown.out g rfl).1)
      generalize hsk : (⟨NL[k].toArray⟩ : ByteArray) = sk at *
      have HSK := hide hsk
      clear hsk hgc
      go_wp2_with fail
      refine CL.out.mono ?_
      rintro e w4 ⟨rfl, hb4⟩
      have hown4 := row_below hown.out hb4
      have hck4 : w4.cell? ⟨g, k, none⟩ = some (.string sk) := (hb4.cell (p := ⟨g, k, none⟩) hgl).trans hck
      have hfr4 := hown4.frozenAt k
      have HS := hide (hown4.stored k (.string sk))
      have HB4 := hide (hbel.out.trans (hb4.mono hbel.out.size))
      clear hb4 hown4 CL hck hfr
      go_wp2
      go_roundw
      case rel =>
        refine ⟨k + 1, by go_num, by omega, hide ?_, hide (HB4.out.setCell (p := ⟨g, k, none⟩) HG.out _)⟩
        have := HS.out.1
        rw [← HSK.out] at this
        rw [show (Value.string ⟨NL[k].toArray⟩) = encStr NL[k] from rfl, HX.out] at this
        rw [← HSK.out]
        exact this
      case measure => simp [intOf]; omega
    · have h8 : k = NL.length := by omega
      subst h8
      have HE := hide (HH.out.same hbel.out).1
      go_wp2
      go_ret
      rw [hNL'.out]
      exact ⟨so, sc, rfl, hown.out, HE.out, hbel.out⟩

end Go.Proofs.YtfogfpanfhmijaaGreat.Clep

/- Sixteen names in order, and what a Crash leaves of them. No conditions. -/
namespace Go.Proofs.YtfogfpanfhmijaaGreat.Clep
open Go.RowKit Go.Maps Go.Sort Go.Shelf
set_option linter.unusedVariables false
set_option linter.unusedSimpArgs false

def dgI (i : Nat) : ByteArray := ⟨#[UInt8.ofNat (48 + (i + 10) / 10), UInt8.ofNat (48 + (i + 10) % 10)]⟩
def nmI (i : Nat) : ByteArray := ⟨#[110, UInt8.ofNat (48 + (i + 10) / 10), UInt8.ofNat (48 + (i + 10) % 10)]⟩
def entI (j : Nat) : Lit × DataW Unit := (key (nmI j), i64L ((j + 1 : Nat) : Int))
def cI (j : Nat) : Ch := ⟨0, nmI j, ⟨#[]⟩, j + 1⟩
def nX (i : Nat) : St := ⟨1000, i, 0, 0, false, i, (List.range i).map fun j => ⟨j + 1, [], 0⟩, .map ((List.range i).map entI), .map [], (List.range i).map cI⟩
theorem below16 {i : Nat} (h : i < 16) : i = 0 ∨ i = 1 ∨ i = 2 ∨ i = 3 ∨ i = 4 ∨ i = 5 ∨ i = 6 ∨ i = 7 ∨ i = 8 ∨ i = 9 ∨ i = 10 ∨ i = 11 ∨ i = 12 ∨ i = 13 ∨ i = 14 ∨ i = 15 := by omega
theorem names1 (i : Nat) (h : i < 16) : createS (nX i) (nmI i) = (0, nX (i + 1)) := by
  rcases below16 h with rfl | rfl | rfl | rfl | rfl | rfl | rfl | rfl | rfl | rfl | rfl | rfl | rfl | rfl | rfl | rfl <;> kernel_rfl
theorem names_apart : ∀ n < 16, ∀ j < n, (key (nmI j)).sameKey (key (nmI n)) = false ∧ (key (nmI n)).before (key (nmI j)) = false ∧ leB (nmI j).data.toList (nmI n).data.toList = true := by decide
theorem insert_end {x : Lit × DataW Unit} : ∀ l : List (Lit × DataW Unit), (∀ p ∈ l, x.1.before p.1 = false) → DataW.insert x l = l ++ [x]
  | [], _ => rfl
  | y :: r, h => by
    simp only [DataW.insert]
    rw [if_neg (by rw [h y List.mem_cons_self]; simp), insert_end r (fun p hp => h p (List.mem_cons_of_mem _ hp))]
    rfl
def keepB (ks : List Int) (j : Nat) : Bool := evenK (ks.drop j)
def keptI (ks : List Int) (n : Nat) : List Nat := (List.range n).filter (keepB ks)
theorem kept_succ (ks : List Int) (n : Nat) : keptI ks (n + 1) = keptI ks n ++ (if keepB ks n then [n] else []) := by
  unfold keptI
  rw [List.range_succ, List.filter_append]
  congr 1
  cases h : keepB ks n <;> simp [h]
theorem kept_lt (ks : List Int) (n : Nat) : ∀ j ∈ keptI ks n, j < n := fun j hj => List.mem_range.1 (List.mem_filter.1 hj).1
theorem doAll_names (ks : List Int) : ∀ n, n ≤ 16 → doAll ((List.range n).map cI) (.map []) ks = .map ((keptI ks n).map entI)
  | 0, _ => rfl
  | n + 1, h => by
    rw [List.range_succ, List.map_append, List.map_singleton, doAll_snoc, doAll_names ks n (by omega), kept_succ]
    have hl : ((List.range n).map cI).length = n := by simp
    rw [hl]
    show (if keepB ks n then _ else _) = _
    cases hk : keepB ks n with
    | false => simp
    | true =>
      rw [if_pos rfl, if_pos rfl, List.map_append, List.map_singleton]
      show DataW.map (DataW.insert (entI n) (((keptI ks n).map entI).filter fun p => !p.1.sameKey (key (nmI n)))) = _
      have hf : (((keptI ks n).map entI).filter fun p => !p.1.sameKey (key (nmI n))) = (keptI ks n).map entI := by
        rw [List.filter_eq_self]
        intro p hp
        obtain ⟨j, hj, rfl⟩ := List.mem_map.1 hp
        have := (names_apart n (by omega) j (kept_lt ks n j hj)).1
        show (!(key (nmI j)).sameKey (key (nmI n))) = true
        rw [this]; rfl
      rw [hf, insert_end]
      intro p hp
      obtain ⟨j, hj, rfl⟩ := List.mem_map.1 hp
      exact (names_apart n (by omega) j (kept_lt ks n j hj)).2.1
theorem keep_whole (f : Fl) (ks : List Int) (h : f.bs.length = f.lasts) : crashF f ks = f ∧ restK f ks = ks := by
  have h1 : keepN f ks = 0 := by unfold keepN; rw [if_pos h]
  refine ⟨?_, by unfold restK; rw [if_pos h]⟩
  unfold crashF
  rw [h1, Nat.add_zero, ← h, List.take_length]
  cases f
  simp only at h ⊢
  rw [h]
theorem crash_whole : ∀ (fs : List Fl) (ks : List Int), (∀ f ∈ fs, f.bs.length = f.lasts) → crashAll fs ks = (fs, ks)
  | [], ks, _ => rfl
  | f :: r, ks, h => by
    have h1 := keep_whole f ks (h f List.mem_cons_self)
    simp only [crashAll]
    rw [h1.1, h1.2, crash_whole r ks (fun g hg => h g (List.mem_cons_of_mem _ hg))]
def wantL (ks : List Int) (n : Nat) : List (List UInt8) := (keptI ks n).map fun j => (nmI j).data.toList
theorem names2 (n : Nat) (ks : List Int) (h : n ≤ 16) : namesL (crashS (nX n) ks) = wantL ks n ∧ (crashS (nX n) ks).dead = false ∧ (crashS (nX n) ks).calls = n := by
  refine ⟨?_, rfl, rfl⟩
  have hc : crashAll (nX n).files ks = ((nX n).files, ks) := crash_whole _ ks (by
    intro f hf
    obtain ⟨j, _, rfl⟩ := List.mem_map.1 hf
    rfl)
  have e : (crashS (nX n) ks).names = .map ((keptI ks n).map entI) := by
    show doAll (nX n).since (nX n).lasting (crashAll (nX n).files ks).2 = _
    rw [hc]
    exact doAll_names ks n h
  unfold namesL
  rw [e]
  have hk : strKeys (.map ((keptI ks n).map entI) : DataW Unit) = wantL ks n := by
    show List.map (fun p => strOf p.1) ((keptI ks n).map entI) = _
    rw [List.map_map]
    rfl
  rw [hk]
  refine List.mergeSort_of_pairwise ?_
  unfold wantL
  rw [List.pairwise_map]
  unfold keptI
  refine (List.pairwise_lt_range.filter _).imp_of_mem ?_
  intro a b ha hb hab
  exact (names_apart b (by have := List.mem_range.1 (List.mem_filter.1 hb).1; omega) a hab).2.2
theorem names_len : ∀ j < 16, (nmI j).data.toList.length ≤ 3 := by decide
theorem and_one (z : Int) : bits .and .i64 z 1 = z % 2 := by
  have e : bits .and .i64 z 1 = IntKind.i64.wrap ((BitVec.ofInt 64 z &&& BitVec.ofInt 64 1).toNat : Int) := rfl
  have h1 : (BitVec.ofInt 64 z &&& BitVec.ofInt 64 1).toNat = (z % 18446744073709551616).toNat % 2 := by
    rw [BitVec.toNat_and, show (BitVec.ofInt 64 1).toNat = 1 from rfl, Nat.and_one_is_mod, BitVec.toNat_ofInt]
    rfl
  rw [e, h1]
  simp [IntKind.wrap, IntKind.bits, IntKind.signed]
  omega
theorem even_iff (z : Int) : (z.tmod 2 == 0) = decide (z % 2 = 0) := by
  rw [Bool.eq_iff_iff]
  simp only [beq_iff_eq, decide_eq_true_eq]
  constructor
  · intro h; have := Int.dvd_of_tmod_eq_zero h; omega
  · intro h; exact Int.tmod_eq_zero_of_dvd (by omega)
theorem names_bad (S : St) (s a : ByteArray) (zs : List Int) (h : okName s = false) : createS S s = (10, S) ∧ appendS S s zs = (10, S) ∧ syncS S s = (10, S) ∧ rmvS S s = (10, S) ∧ renS S s a = (10, S) ∧ renS S a s = (10, S) ∧ (readS S s) = (10, []) := by
  refine ⟨?_, ?_, ?_, ?_, ?_, ?_, ?_⟩
  · unfold createS; rw [if_pos h]
  · unfold appendS; rw [if_pos h]
  · unfold syncS; rw [if_pos h]
  · unfold rmvS; rw [if_pos h]
  · unfold renS; rw [if_pos (.inl h)]
  · unfold renS; rw [if_pos (.inr h)]
  · unfold readS; rw [if_pos h]

theorem okName_len (s : ByteArray) (hp : ∀ i (hi : i < s.size), i < s.size → okB (s[i]'hi).toNat = true) : okName s = (decide (1 ≤ s.size) && decide (s.size ≤ 16)) := by
  by_cases h : 1 ≤ s.size ∧ s.size ≤ 16
  · rw [okName_good s h hp, decide_eq_true h.1, decide_eq_true h.2]; rfl
  · unfold okName
    have : (decide (1 ≤ s.size) && decide (s.size ≤ 16)) = false := by
      rw [Bool.and_eq_false_iff, decide_eq_false_iff_not, decide_eq_false_iff_not]; omega
    rw [this]; rfl
theorem refok_any (s : ByteArray) (w : World) (hs : s.size ≤ 100) :
    Calls Tryz.prog 57 #[.string s] w fun e w' => e = .returned (.bool (okName s)) ∧ w' = w := by
  go_enter Tryz.func57, Tryz.ntmps57
  go_wp2
  go_loop [3] (fun i => ∃ k : Nat, k ≤ s.size ∧ i = .int .i64 k ∧ Hid (∀ i (hi : i < s.size), i < k → okB (s[i]'hi).toNat = true)) (fun i => s.size - (intOf i).toNat)
  case atStart => exact ⟨0, by omega, rfl, hide (fun i hi h => by omega)⟩
  case round =>
    obtain ⟨k, hk, rfl, hT⟩ := hrel
    by_cases hlk : k < s.size
    · obtain ⟨z, hck⟩ : ∃ z : Nat, (s[k]'hlk).toNat = z := ⟨_, rfl⟩
      have hz : z < 256 := by rw [← hck]; exact UInt8.toNat_lt _
      have HG := hide (okName_upto s k hlk hT.out)
      have HB := hide (okName_bad s k hlk)
      rw [hck] at HG HB
      clear hT
      have hok := okB_iff z
      go_wp2
      all_goals first
        | (refine ⟨⟨k + 1, by omega, by go_num, hide (HG.out (hok.2 (by first | omega | (simp only [Bool.not_eq_false', decide_eq_true_eq, beq_iff_eq, bne_eq_false_iff_eq] at *; omega))))⟩, ?_⟩; simp [intOf]; omega)
        | (go_ret; exact ⟨by rw [HB.out (by rw [← Bool.not_eq_true, hok]; first | omega | (simp only [Bool.not_eq_true', beq_eq_false_iff_ne, ne_eq] at *; omega))]; rfl, rfl⟩)
    · have h8 : k = s.size := by omega
      subst h8
      have HO := hide (okName_len s hT.out)
      by_cases h1 : 1 ≤ s.size
      · have h1' : (1 : Int) ≤ (s.size : Int) := by omega
        by_cases h2 : s.size ≤ 16
        · have h2' : (s.size : Int) ≤ 16 := by omega
          go_wp2
          go_ret
          exact ⟨by rw [HO.out, decide_eq_true h1, decide_eq_true h2]; rfl, rfl⟩
        · have h2' : ¬ ((s.size : Int) ≤ 16) := by omega
          go_wp2
          go_ret
          exact ⟨by rw [HO.out, decide_eq_true h1, decide_eq_false h2]; rfl, rfl⟩
      · have h1' : ¬ ((1 : Int) ≤ (s.size : Int)) := by omega
        go_wp2
        go_ret
        exact ⟨by rw [HO.out, decide_eq_false h1]; rfl, rfl⟩

end Go.Proofs.YtfogfpanfhmijaaGreat.Clep
