/- What leading and prepare of a Manifest do when called (walks over the translated program). Disks of up to 60 files of a manifest, numbers from 1 to 99. -/
import Derived.Test.YtcahlmneancapaaGreatDoorFv15
import Derived.Test.YtcahlmneancapaaGreatDoorFv16
import Derived.Test.YtcahlmneancapaaGreatDoorFv17
import Derived.Test.YtcahlmneancapaaGreatDoorFv13
import Derived.Test.YtcahlmneancapaaGreatDoorFv03
namespace Go.Proofs.YtcahlmneancapaaGreatDoor.Clep
open Go.RowKit Go.Maps Go.Sort
set_option linter.unusedVariables false
set_option maxRecDepth 10000

/-- The bytes of current that lead to man.n. -/
def leB (n : Nat) : List Int := fr 8 (pu (n : Int))
theorem pu_len10 (n : Int) : (pu n).length ≤ 10 := (pu_len n).2
theorem leB_len (n : Nat) : (leB n).length ≤ 22 := by
  have := pu_len10 n
  unfold leB
  rw [fr_len]
  omega
theorem leB_range {n : Nat} (hn : n < 100) : ByteL (leB n) := fr_range 8 (pu n) (by decide) (by decide) (by have := pu_len10 n; omega) (pu_range n (by omega) (by omega))
theorem leading_any (n : Nat) (w : World) (hn : n < 100) :
    Calls Tryz.prog 103 #[.int .i64 n] w fun e w' => ∃ v, e = .returned (.tuple #[v, .int .i64 0]) ∧ Own w' w.heap.size v (leB n) ∧ Below w.heap.size w w' := by
  have hw : IntKind.u64.wrap (n : Int) = (n : Int) := by rw [IntKind.wrap_u64]; omega
  have P := hide (put_any none 0 0 [] w n (by omega) (by omega) (by decide) (bs_nil w))
  have HR := hide (pu_range n (by omega) (by omega))
  have hl := pu_len10 n
  unfold leB
  rw [List.nil_append] at P
  generalize pu (n : Int) = ys at *
  go_enter Tryz.func103, Tryz.ntmps103
  go_wp2_with fail
  refine P.out.mono ?_
  rintro e w1 ⟨v, rfl, ho, hb⟩
  obtain ⟨a, c, rfl, -, hB, -⟩ := own_bs ho (range_of HR.out)
  have FP := hide (fput_any none a 0 0 ys.length c [] ys 8 w1 (by decide) (by decide) (by omega) (by decide) (bs_nil w1) hB)
  have HB := hide hb
  rw [List.nil_append] at FP
  generalize ys.length = N at *
  clear P ho hb hB
  go_wp2_with fail
  refine FP.out.mono ?_
  rintro e w2 ⟨v2, rfl, ho2, hb2⟩
  have HO := hide (own_base ho2 HB.out.size)
  have HB2 := hide (bmore HB.out hb2)
  clear FP ho2 hb2
  go_wp2
  go_ret2
  exact ⟨_, rfl, HO.out, HB2.out⟩

theorem mem_strB {l : List (List UInt8)} {s : ByteArray} : s ∈ l.map strB ↔ s.data.toList ∈ l := by
  rw [List.mem_map]
  refine ⟨fun ⟨x, hx, e⟩ => ?_, fun h => ⟨_, h, strB_key s⟩⟩
  have : x = s.data.toList := by rw [← e]; simp [strB]
  rw [← this]; exact hx
theorem hasL_iff {S : St} {T : Nat} (D : Dk S T) (s : ByteArray) : Lib.containsS ((listS S).map strB) s = hasL S s := by
  have hi := Lib.containsS_iff ((listS S).map strB) s
  unfold hasL
  unfold listS at hi ⊢
  have h1 := names_mem S D.hn s.data.toList
  rw [strB_key, ← D.hn.has] at h1
  cases hd : S.dead with
  | true =>
    rw [hd] at hi
    cases hq : Lib.containsS (List.map strB (if (true : Bool) = true then [] else namesL S)) s with
    | true => have := hi.1 hq; simp at this
    | false => rfl
  | false =>
    rw [hd] at hi
    have h2 : (s ∈ (namesL S).map strB) ↔ Maps.has S.names (key s) = true := mem_strB.trans h1
    cases hq : Lib.containsS (List.map strB (if (false : Bool) = true then [] else namesL S)) s with
    | true => have := h2.1 (hi.1 hq); simp [this]
    | false =>
      cases hh : Maps.has S.names (key s) with
      | true => have := hi.2 (h2.2 hh); rw [hq] at this; cases this
      | false => rfl
theorem contains_any (so : Option Addr) (sc N : Nat) (l : List (List UInt8)) (x : ByteArray) (w : World) (hN : l.length = N) (h62 : N ≤ 62) (hc : 0 < N → ∃ g, so = some ⟨g, 0, none⟩ ∧ ∀ i y, l[i]? = some y → w.cell? ⟨g, i, none⟩ = some (.string (strB y))) :
    Calls Tryz.prog 104 #[.slice so N sc, .string x] w fun e w' => e = .returned (.bool (Lib.containsS (l.map strB) x)) ∧ w' = w := by
  cases N with
  | zero =>
    have hl : l = [] := List.length_eq_zero_iff.1 hN
    rw [hl]
    exact Any.slices_Contains_string_empty Tryz.contA so sc x w
  | succ m =>
    obtain ⟨g, rfl, hcell⟩ := hc (by omega)
    have h := Any.slices_Contains_string Tryz.contA g 0 (m + 1) sc (l.map strB) x w (by rw [List.length_map]; omega) (by omega) (fun j hj => by
      rw [List.length_map] at hj
      have hy := hcell j _ (List.getElem?_eq_getElem hj)
      rw [Nat.zero_add, hy]
      simp [List.getD, List.getElem?_eq_getElem hj])
    rw [List.take_of_length_le (by rw [List.length_map]; omega)] at h
    exact h
theorem prep_calls (S : St) (Z : List Int) : (prepS S Z).2.calls ≤ S.calls + 5 := by
  unfold prepS
  have h1 : (if hasL S nFrs = true then rmvS S nFrs else (0, S)).2.calls ≤ S.calls + 1 := by
    split
    · exact rmv_calls S nFrs
    · exact Nat.le_succ _
  generalize (if hasL S nFrs = true then rmvS S nFrs else (0, S)) = a at *
  obtain ⟨E1, S1⟩ := a
  simp only at h1 ⊢
  split
  · show S1.calls ≤ _; omega
  · have h2 := lay_calls S1 nFrs Z
    obtain ⟨E2, S2, e2⟩ : ∃ E2 S2, layS S1 nFrs Z = (E2, S2) := ⟨_, _, rfl⟩
    rw [e2] at h2 ⊢
    simp only at h2 ⊢
    split
    · show S2.calls ≤ _; omega
    · have h3 := syncDir_calls S2
      omega
theorem nFrs_sz : nFrs.size ≤ 70368744177664 := by decide
set_option maxHeartbeats 2000000 in
theorem prep_any {F : Nat → Prop} {w : World} {M R n c T n' : Nat} {V : Vw} {br : Bool} {S S' : St} {E : Nat} (h : Ma F w M R n c V br S) (D : Dk S T) (hm : S.calls < 274877906944) (hn' : n' < 100) (e : prepS S (leB n') = (E, S')) :
    Calls Tryz.prog 72 #[.pointer (some ⟨M, 0, none⟩), .int .i64 n'] w fun e w' => e = .returned (.int .i64 E) ∧ Ma F w' M R n c V br S' ∧ Same F w w' := by
  have LD := hide (leading_any n' w hn')
  have HL := hide (hasL_iff D nFrs)
  have HRG := hide (leB_range hn')
  have hlen := leB_len n'
  unfold prepS at e
  have HM := hide h
  clear h
  obtain ⟨hs, hhs⟩ : ∃ hs, hasL S nFrs = hs := ⟨_, rfl⟩
  rw [hhs] at HL e
  clear hhs
  generalize hZ : leB n' = Z at *
  clear hZ
  go_enter Tryz.func72, Tryz.ntmps72
  go_wp2_with fail
  refine LD.out.mono ?_
  rintro e w1 ⟨v, rfl, ho, hb⟩
  obtain ⟨a, cz, rfl, -, hB, hbk⟩ := own_bs ho (range_of HRG.out)
  have M1 := hide (HM.out.wide hb)
  have S1 := hide (same_of (F := F) hb (fun i hi => HM.out.held.lt hi))
  have HBs := hide hB
  have HBK := hide (show 0 < Z.length → ∀ b off, a = some ⟨b, off, none⟩ → F b ∨ (w.heap.size ≤ b ∧ b < w1.heap.size) from fun _ b off e => .inr ⟨(hbk b off e).1, (hbk b off e).2.1⟩)
  clear LD ho hb hB hbk
  generalize hN : Z.length = N at *
  have HN := hide hN
  clear hN
  obtain ⟨a1, fc1, hb1, _⟩ := M1.out.blk
  have c1 : w1.cell? ⟨M, 0, none⟩ = some (.pointer (some ⟨R, 0, none⟩)) := hb1.cell rfl
  have LI := hide (mlist_any M1.out.held D (by omega))
  clear hb1
  go_wp2_with fail
  refine LI.out.mono ?_
  rintro e w2 ⟨so, sc, rfl, hl62, hcs, -, hb2⟩
  have CT := hide (contains_any so sc (listS S).length (listS S) nFrs w2 rfl hl62 (fun h0 => by obtain ⟨g, e, _, _, hc⟩ := hcs h0; exact ⟨g, e, hc⟩))
  rw [HL.out] at CT
  have M2 := hide (M1.out.below hb2)
  have S2 := hide (S1.out.trans (same_of (F := F) hb2 (fun i hi => M1.out.held.lt (.inl hi))))
  have HB2 := hide (HBs.out.below hb2 (Nat.le_refl _))
  generalize (listS S).length = LL at *
  unfold nFrs at CT
  clear LI hcs hb2 M1 S1 HBs c1
  go_wp2_with fail
  refine CT.out.mono ?_
  rintro e w3 ⟨rfl, rfl⟩
  clear CT
  obtain ⟨a2, fc2, hb2, _⟩ := M2.out.blk
  have c2 : w3.cell? ⟨M, 0, none⟩ = some (.pointer (some ⟨R, 0, none⟩)) := hb2.cell rfl
  clear hb2
  -- what follows: the file laid, and the names' lasting
  cases hs with
  | false =>
    rw [show (if false = true then rmvS S nFrs else (0, S)) = (0, S) from if_neg (by simp)] at e
    try simp only at e
    rw [if_neg (by simp)] at e
    have k2 := lay_calls S nFrs Z
    obtain ⟨E2, Sb, e2⟩ : ∃ E2 Sb, layS S nFrs Z = (E2, Sb) := ⟨_, _, rfl⟩
    rw [e2] at e k2
    simp only at e k2
    have LY := hide (lay_h nFrs a N cz Z e2 M2.out.held (by omega) nFrs_sz HB2.out (by omega) HBK.out)
    unfold nFrs at LY
    by_cases n2 : E2 = 0
    · subst n2
      rw [if_neg (by simp)] at e
      have HE := hide e
      clear e
      go_wp2_with fail
      refine LY.out.mono ?_
      rintro e w5 ⟨rfl, h5, s5⟩
      have M5 := hide (M2.out.disk h5 s5)
      have S5 := hide (S2.out.trans (s5.mono (F' := F) (fun i hi => .inl hi)))
      clear LY h5 s5
      obtain ⟨a5, fc5, hb5, _⟩ := M5.out.blk
      have c5 : w5.cell? ⟨M, 0, none⟩ = some (.pointer (some ⟨R, 0, none⟩)) := hb5.cell rfl
      have SD := hide (syncDir_h HE.out M5.out.held (by omega))
      clear hb5
      go_wp2_with fail
      refine SD.out.mono ?_
      rintro e w6 ⟨rfl, h6, s6⟩
      have HS := S5.out.trans (s6.mono (F' := F) (fun i hi => .inl hi))
      have HEND := hide (And.intro (HM.out.disk (h6.less (fun i hi => .inl hi)) HS) HS)
      clear SD h6 s6 HS c5
      go_wp2
      go_ret
      exact ⟨rfl, HEND.out⟩
    · rw [if_pos n2] at e
      injection e with ea eb
      subst ea eb
      have hne2 : ¬ ((E2 : Int) = 0) := by omega
      go_wp2_with fail
      refine LY.out.mono ?_
      rintro e w5 ⟨rfl, h5, s5⟩
      have HS := S2.out.trans (s5.mono (F' := F) (fun i hi => .inl hi))
      have HEND := hide (And.intro (HM.out.disk (h5.less (fun i hi => .inl hi)) HS) HS)
      clear LY h5 s5 HS
      go_wp2
      go_ret
      exact ⟨rfl, HEND.out⟩
  | true =>
    rw [show (if true = true then rmvS S nFrs else (0, S)) = rmvS S nFrs from if_pos rfl] at e
    have k1 := rmv_calls S nFrs
    obtain ⟨E1, Sa, e1⟩ : ∃ E1 Sa, rmvS S nFrs = (E1, Sa) := ⟨_, _, rfl⟩
    rw [e1] at e k1
    simp only at e k1
    have RM := hide (remove_h nFrs e1 M2.out.held (by omega) nFrs_sz)
    unfold nFrs at RM
    by_cases n1 : E1 = 0
    · subst n1
      rw [if_neg (by simp)] at e
      go_wp2_with fail
      refine RM.out.mono ?_
      rintro e w4 ⟨rfl, h4, s4⟩
      have M4 := hide (M2.out.disk h4 s4)
      have S4 := hide (S2.out.trans (s4.mono (F' := F) (fun i hi => .inl hi)))
      have HB4 := hide (bs_same HB2.out s4 HBK.out)
      clear RM h4 s4 M2 S2 HB2 c2
      obtain ⟨a4, fc4, hb4, _⟩ := M4.out.blk
      have c4 : w4.cell? ⟨M, 0, none⟩ = some (.pointer (some ⟨R, 0, none⟩)) := hb4.cell rfl
      clear hb4
      have k2 := lay_calls Sa nFrs Z
      obtain ⟨E2, Sb, e2⟩ : ∃ E2 Sb, layS Sa nFrs Z = (E2, Sb) := ⟨_, _, rfl⟩
      rw [e2] at e k2
      simp only at e k2
      have LY := hide (lay_h nFrs a N cz Z e2 M4.out.held (by omega) nFrs_sz HB4.out (by omega) HBK.out)
      unfold nFrs at LY
      by_cases n2 : E2 = 0
      · subst n2
        rw [if_neg (by simp)] at e
        have HE := hide e
        clear e
        go_wp2_with fail
        refine LY.out.mono ?_
        rintro e w5 ⟨rfl, h5, s5⟩
        have M5 := hide (M4.out.disk h5 s5)
        have S5 := hide (S4.out.trans (s5.mono (F' := F) (fun i hi => .inl hi)))
        clear LY h5 s5
        obtain ⟨a5, fc5, hb5, _⟩ := M5.out.blk
        have c5 : w5.cell? ⟨M, 0, none⟩ = some (.pointer (some ⟨R, 0, none⟩)) := hb5.cell rfl
        have SD := hide (syncDir_h HE.out M5.out.held (by omega))
        clear hb5
        go_wp2_with fail
        refine SD.out.mono ?_
        rintro e w6 ⟨rfl, h6, s6⟩
        have HS := S5.out.trans (s6.mono (F' := F) (fun i hi => .inl hi))
        have HEND := hide (And.intro (HM.out.disk (h6.less (fun i hi => .inl hi)) HS) HS)
        clear SD h6 s6 HS c5
        go_wp2
        go_ret
        exact ⟨rfl, HEND.out⟩
      · rw [if_pos n2] at e
        injection e with ea eb
        subst ea eb
        have hne2 : ¬ ((E2 : Int) = 0) := by omega
        go_wp2_with fail
        refine LY.out.mono ?_
        rintro e w5 ⟨rfl, h5, s5⟩
        have HS := S4.out.trans (s5.mono (F' := F) (fun i hi => .inl hi))
        have HEND := hide (And.intro (HM.out.disk (h5.less (fun i hi => .inl hi)) HS) HS)
        clear LY h5 s5 HS
        go_wp2
        go_ret
        exact ⟨rfl, HEND.out⟩
    · rw [if_pos n1] at e
      injection e with ea eb
      subst ea eb
      have hne : ¬ ((E1 : Int) = 0) := by omega
      go_wp2_with fail
      refine RM.out.mono ?_
      rintro e w4 ⟨rfl, h4, s4⟩
      have HS := S2.out.trans (s4.mono (F' := F) (fun i hi => .inl hi))
      have HEND := hide (And.intro (HM.out.disk (h4.less (fun i hi => .inl hi)) HS) HS)
      clear RM h4 s4 HS M2 S2
      go_wp2
      go_ret
      exact ⟨rfl, HEND.out⟩

end Go.Proofs.YtcahlmneancapaaGreatDoor.Clep

/- Views that Edits make; what is dropped and put back. No conditions. -/
namespace Go.Proofs.YtcahlmneancapaaGreatDoor.Clep
open Go.RowKit
set_option linter.unusedVariables false
set_option maxRecDepth 10000

def goodV (V : Vw) : Prop := V = zV ∨ vok V = true
theorem vok_parts2 {V : Vw} (h : vok V = true) : vwH V = true ∧ V.f.all Fi.ok = true ∧ once V.f = true := by
  unfold vok at h
  rw [Bool.and_eq_true, Bool.and_eq_true] at h
  exact h
theorem vwH_len {V : Vw} (h : vwH V = true) : V.f.length ≤ 40 := by
  unfold vwH at h
  have := of_decide_eq_true h
  omega
theorem good_once {V : Vw} (h : goodV V) : once V.f = true ∧ V.f.length ≤ 40 := by
  rcases h with rfl | h
  · exact ⟨rfl, by unfold zV; simp⟩
  · exact ⟨(vok_parts2 h).2.2, vwH_len (vok_parts2 h).1⟩
theorem appl_vok {V X : Vw} {E : Ed} (h : appl V E = some X) : vok X = true := by
  unfold appl at h
  split at h
  · cases h
  · split at h
    · rename_i hv
      injection h with h
      rw [← h]
      exact hv
    · cases h
theorem put0_zero (x : Int) : put0 0 x = x := by unfold put0; split <;> omega
theorem put0_stay (x : Int) : put0 x 0 = x := by unfold put0; simp
theorem appl_whole {V : Vw} (h : vok V = true) : appl zV (wholeE V) = some V := by
  have e : after zV (wholeE V) [] = V := by
    unfold after wholeE zV
    simp only [put0_zero, List.nil_append]
  unfold appl
  show (match dropN [] [] with | none => none | some l => if vok (after zV (wholeE V) l) = true then some (after zV (wholeE V) l) else none) = some V
  unfold dropN
  simp only [e]
  rw [if_pos h]
theorem once_iff : ∀ (l : List Fi), once l = true ↔ (l.map Fi.N).Nodup
  | [] => by simp [once]
  | f :: r => by
    unfold once
    rw [Bool.and_eq_true, once_iff r, List.map_cons, List.nodup_cons]
    refine and_congr_left fun _ => ?_
    rw [List.all_eq_true]
    constructor
    · intro h hm
      obtain ⟨g, hg, e⟩ := List.mem_map.1 hm
      have := h g hg
      simp [e] at this
    · intro h g hg
      simp only [Bool.not_eq_true', beq_eq_false_iff_ne]
      exact fun e => h (List.mem_map.2 ⟨g, hg, e⟩)
theorem wo_perm {l : List Fi} {k : Nat} {f : Fi} (h : l[k]? = some f) : (wo l k ++ [f]).Perm l := by
  obtain ⟨hk, rfl⟩ := List.getElem?_eq_some_iff.1 h
  unfold wo
  have e : l = l.take k ++ (l[k] :: l.drop (k + 1)) := by
    rw [← List.drop_eq_getElem_cons hk, List.take_append_drop]
  refine List.Perm.trans ?_ (List.Perm.of_eq e.symm)
  rw [List.append_assoc]
  exact List.Perm.append_left _ (List.perm_append_comm)
theorem hasN_at {l : List Fi} {k : Nat} {f : Fi} (h : l[k]? = some f) : hasN l f.N = true := List.any_eq_true.2 ⟨f, List.mem_of_getElem? h, by simp⟩
theorem atN_at {l : List Fi} {k : Nat} {f : Fi} (ho : once l = true) (h : l[k]? = some f) : atN l f.N = k := by
  refine atN_here h rfl ?_
  rw [List.all_eq_true]
  intro g hg
  obtain ⟨j, hj, rfl⟩ := List.getElem_of_mem hg
  rw [List.length_take] at hj
  rw [List.getElem_take]
  simp only [Bool.not_eq_true', beq_eq_false_iff_ne]
  intro e
  have := once_bad (l := l) (k := j) (i := k) (List.getElem?_eq_getElem (by omega)) h (by omega) e
  rw [this] at ho
  cases ho
theorem len_perm {l m : List Fi} (h : l.Perm m) : l.length = m.length := h.length_eq
/-- A file that is dropped and put back comes last. -/
def backV (V : Vw) (k : Nat) (f : Fi) : Vw := ⟨V.lg, wo V.f k ++ [f], V.fl, V.ct, V.at9, V.ls⟩
theorem appl_back {V : Vw} {k : Nat} {f : Fi} (hv : vok V = true) (h : V.f[k]? = some f) : appl V ⟨[f.N], [f], 0, 0, 0, 0, 0⟩ = some (backV V k f) := by
  obtain ⟨h1, h2, h3⟩ := vok_parts2 hv
  have hat := atN_at h3 h
  have hk : k < V.f.length := (List.getElem?_eq_some_iff.1 h).1
  have hd : dropN V.f [f.N] = some (wo V.f k) := by
    unfold dropN
    rw [hat, if_neg (by omega)]
    rfl
  have hp := wo_perm h
  have e : after V ⟨[f.N], [f], 0, 0, 0, 0, 0⟩ (wo V.f k) = backV V k f := by
    unfold after backV
    simp only [put0_stay]
  unfold appl
  simp only [hd, e]
  rw [if_pos]
  unfold vok
  rw [Bool.and_eq_true, Bool.and_eq_true]
  refine ⟨?_, ?_, ?_⟩
  · unfold vwH at h1 ⊢
    have := of_decide_eq_true h1
    refine decide_eq_true ?_
    have hl := len_perm hp
    unfold backV
    simp only [hl]
    exact this
  · exact List.all_eq_true.2 fun x hx => List.all_eq_true.1 h2 x (hp.mem_iff.1 hx)
  · exact (once_iff _).2 (((hp.map Fi.N).nodup_iff).2 ((once_iff _).1 h3))
theorem appl_twice {V : Vw} {k : Nat} {f : Fi} (hv : vok V = true) (h : V.f[k]? = some f) : appl V ⟨[f.N, f.N], [], 0, 0, 0, 0, 0⟩ = none := by
  obtain ⟨h1, h2, h3⟩ := vok_parts2 hv
  have hat := atN_at h3 h
  have hk : k < V.f.length := (List.getElem?_eq_some_iff.1 h).1
  have hd : dropN V.f [f.N, f.N] = none := by
    have hw := wo_but V.f f.N h3 (hasN_at h)
    rw [hat] at hw
    unfold dropN
    rw [hat, if_neg (by omega), hw]
    unfold dropN
    rw [if_pos]
    rw [atN_not, hasN_but]
    simp
  unfold appl
  simp only [hd]
theorem appl_again {V : Vw} {k : Nat} {f : Fi} (hv : vok V = true) (h : V.f[k]? = some f) : appl V ⟨[], [f], 0, 0, 0, 0, 0⟩ = none := by
  unfold appl
  simp only [dropN]
  rw [if_neg]
  intro hx
  have := (vok_parts2 hx).2.2
  rw [once_iff] at this
  unfold after at this
  simp only [List.map_append, List.nodup_append] at this
  exact this.2.2 f.N (List.mem_map.2 ⟨f, List.mem_of_getElem? h, rfl⟩) f.N (by simp) rfl
theorem backV_len {V : Vw} {k : Nat} {f : Fi} (h : V.f[k]? = some f) : (backV V k f).f.length = V.f.length := len_perm (wo_perm h)
theorem backV_last (V : Vw) (k : Nat) (f : Fi) (n : Nat) (hn : (backV V k f).f.length = n + 1) : (backV V k f).f[n]? = some f := by
  unfold backV at hn ⊢
  simp only at hn ⊢
  have : n = (wo V.f k).length := by simp at hn; omega
  rw [this]
  simp
/-- What Apply answers in its first place. -/
def apv (r : Option Vw) : Vw := r.getD zV
theorem apr_any {r : Option Vw} {w w' : World} {e : Ending} (h : ApR r w e w') : ∃ a c, e = .returned (.tuple #[vwV a (apv r).f.length c (apv r), .bool r.isSome]) ∧ c ≤ 9223372036854775807 ∧ OwnF w' w.heap.size (.slice a (apv r).f.length c) (apv r).f ∧ (∀ x ∈ (apv r).f, x.wf) ∧ Below w.heap.size w w' := by
  cases r with
  | none =>
    obtain ⟨he, hb⟩ := h
    exact ⟨none, 0, he, by omega, ownF_nil _ _, fun x hx => (by cases hx), hb⟩
  | some V =>
    obtain ⟨⟨a, c, he, ho, hf⟩, hb⟩ := h
    refine ⟨a, c, he, ?_, ho, hf.2.2.1, hb⟩
    obtain ⟨a', c', e2, hc, _, _⟩ := ownF_fs ho hf.2.2.1
    injection e2 with _ _ e3
    rw [e3]
    exact hc

end Go.Proofs.YtcahlmneancapaaGreatDoor.Clep

/- What edit.mayBe does when called (a walk over the translated program): for any Edit. -/
namespace Go.Proofs.YtcahlmneancapaaGreatDoor.Clep
open Go.RowKit
set_option linter.unusedVariables false
set_option maxRecDepth 10000

def mayB (E : Ed) : Bool := decide (E.d.length ≤ 40) && (E.d.all okN && (flk E.a && (((E.lg == 0) || okN E.lg) && [E.fl, E.ct, E.at9, E.ls].all okV)))
theorem mayB_iff (E : Ed) : mayB E = true ↔ emay E = 0 := by
  unfold mayB emay edH flk okN okV
  cases h1 : E.d.all (fun n => decide (1 ≤ n ∧ n ≤ 1073741824)) <;> cases h2 : E.a.all Fi.ok
  · simp
  · simp
  · simp
  · simp only [Bool.true_and, Bool.and_true, Bool.and_eq_true, decide_eq_true_eq, List.all_cons, List.all_nil, Bool.or_eq_true, beq_iff_eq]
    constructor
    · rintro ⟨a1, a2, a3, a4, a5, a6, a7⟩
      rw [if_pos (by omega)]
    · intro h
      split at h
      · rename_i hh; omega
      · cases h
set_option maxHeartbeats 1000000 in
theorem maybe_any (da : Option Addr) (dn dc : Nat) (aa : Option Addr) (an ac : Nat) (E : Ed) (w : World) (hd : Zs w da dn dc E.d) (ha : Fs w aa an ac E.a) (hdn : dn ≤ 9223372036854775807) (han : an ≤ 9223372036854775807) :
    Calls Tryz.prog 76 #[edV da dn dc aa an ac E] w fun e w' => e = .returned (.bool (mayB E)) ∧ Below w.heap.size w w' := by
  have hld := hd.1
  have HD := hide (fun W (hW : Below w.heap.size w W) => hd.below hW (Nat.le_refl _))
  have HA := hide (fun W (hW : Below w.heap.size w W) => ha.below hW (Nat.le_refl _))
  have HM := hide (show mayB E = (decide (E.d.length ≤ 40) && (E.d.all okN && (flk E.a && (((E.lg == 0) || okN E.lg) && [E.fl, E.ct, E.at9, E.ls].all okV)))) from rfl)
  generalize mayB E = M at *
  obtain ⟨d, a, lg, fl, ct, at9, ls⟩ := E
  unfold edV
  simp only at hld HD HA HM ⊢
  rw [hld] at HM
  clear hd ha
  have A0 := (Below.refl w.heap.size w).alloc (Nat.le_refl _) (Obj.cells #[.slice da dn dc, .slice aa an ac, .int .i64 lg, .int .u64 fl, .int .u64 ct, .int .u64 at9, .int .u64 ls] 34)
  have HB0 := hide A0
  have hK := hide (show ∀ W, Below (w.heap.size + 1) (w.alloc (Obj.cells #[.slice da dn dc, .slice aa an ac, .int .i64 lg, .int .u64 fl, .int .u64 ct, .int .u64 at9, .int .u64 ls] 34)) W → Ek W w.heap.size #[.slice da dn dc, .slice aa an ac, .int .i64 lg, .int .u64 fl, .int .u64 ct, .int .u64 at9, .int .u64 ls] 34 from fun W hW => (ek_new w _ _).below hW (by omega))
  have CN := hide numok_any
  have CF := hide (fun W (hW : Below w.heap.size w W) => filesok_any aa an ac a W (HA.out W hW) han)
  have CV := hide (fun p W (hW : Uz W p [fl, ct, at9, ls]) => versok_any p 4 _ W hW rfl (by omega))
  clear A0
  by_cases h40 : dn ≤ 40
  · have g1 : (dn : Int) ≤ 40 := by omega
    rw [show decide (dn ≤ 40) = true from decide_eq_true h40, Bool.true_and] at HM
    go_enter Tryz.func76, Tryz.ntmps76
    go_wp2_with fail
    generalize hwa : w.alloc (Obj.cells #[.slice da dn dc, .slice aa an ac, .int .i64 lg, .int .u64 fl, .int .u64 ct, .int .u64 at9, .int .u64 ls] 34) = wa at *
    have hsa : wa.heap.size = w.heap.size + 1 := by rw [← hwa]; simp
    clear hwa
    have hZ0 := hide (HD.out wa HB0.out)
    go_loop [12] (fun s => ∃ k : Nat, k ≤ dn ∧ s = .int .i64 k ∧ Hid ((d.take k).all okN = true)) (fun s => dn - (intOf s).toNat)
    case atStart => exact ⟨0, by omega, rfl, hide (by simp)⟩
    case round =>
      obtain ⟨k, hk, rfl, hall⟩ := hrel
      by_cases hlt : k < dn
      · obtain ⟨z, b, off, hz, rfl, hc, hz1, hz2⟩ := zs_at hZ0.out k hlt
        have NK := hide (numok_any z wa)
        obtain ⟨o, ho⟩ : ∃ o, okN z = o := ⟨_, rfl⟩
        rw [ho] at NK
        have HBD := hide (show o = false → M = false from fun e => by rw [HM.out, all_bad hz (by rw [ho, e])]; rfl)
        have HTD := hide (show o = true → (d.take (k + 1)).all okN = true from fun e => all_more hz (by rw [ho, e]) hall.out)
        clear hz ho
        go_wp2_with fail
        refine NK.out.mono ?_
        rintro e w1 ⟨rfl, hw1⟩
        subst hw1
        clear NK
        cases o with
        | false =>
          obtain rfl : M = false := HBD.out (by first | rfl | trivial)
          clear HBD HTD HM
          go_wp2
          go_ret
          exact ⟨rfl, HB0.out⟩
        | true =>
          have HT := hide (HTD.out (by first | rfl | trivial))
          clear HBD HTD
          go_wp2
          go_round
          case rel => exact ⟨k + 1, by omega, by go_num, HT⟩
          case measure => simp [intOf]; omega
      · obtain rfl : k = dn := by omega
        have hdall : d.all okN = true := by have := hall.out; rwa [List.take_of_length_le (by omega)] at this
        rw [hdall, Bool.true_and] at HM
        clear hall hdall
        have k1 : wa.cell? ⟨w.heap.size, 1, none⟩ = some (.slice aa an ac) := (hK.out _ (Below.refl _ _)).cell rfl
        obtain ⟨o1, e1⟩ : ∃ o, flk a = o := ⟨_, rfl⟩
        rw [e1] at HM CF
        go_wp2_with fail
        refine (CF.out _ HB0.out).mono ?_
        rintro e w2 ⟨rfl, hb2⟩
        have HB2 := hide (HB0.out.trans (hb2.mono (by omega)))
        have HC2 := hide (hb2.mono (Nat.le_of_eq hsa.symm))
        clear CF hb2 k1 e1
        cases o1 with
        | false =>
          obtain rfl : M = false := by rw [HM.out]; rfl
          clear HM
          go_wp2
          go_ret
          exact ⟨rfl, HB2.out⟩
        | true =>
          rw [Bool.true_and] at HM
          have kk := hK.out _ HC2.out
          have k2 : w2.cell? ⟨w.heap.size, 2, none⟩ = some (.int .i64 lg) := kk.cell rfl
          have k3 : w2.cell? ⟨w.heap.size, 3, none⟩ = some (.int .u64 fl) := kk.cell rfl
          have k4 : w2.cell? ⟨w.heap.size, 4, none⟩ = some (.int .u64 ct) := kk.cell rfl
          have k5 : w2.cell? ⟨w.heap.size, 5, none⟩ = some (.int .u64 at9) := kk.cell rfl
          have k6 : w2.cell? ⟨w.heap.size, 6, none⟩ = some (.int .u64 ls) := kk.cell rfl
          have HB4 := hide (HB2.out.alloc HB2.out.size (Obj.cells #[.int .u64 fl, .int .u64 ct, .int .u64 at9, .int .u64 ls] 29))
          have HU := hide (uz4 (ek_new w2 #[.int .u64 fl, .int .u64 ct, .int .u64 at9, .int .u64 ls] 29))
          obtain ⟨o4, e4⟩ : ∃ o, [fl, ct, at9, ls].all okV = o := ⟨_, rfl⟩
          rw [e4] at HM CV
          clear kk e4
          by_cases hl0 : lg = 0
          · subst hl0
            obtain rfl : M = o4 := by rw [HM.out]; simp
            clear HM
            go_wp2_with fail
            refine (CV.out _ _ HU.out).mono ?_
            rintro e w4 ⟨rfl, rfl⟩
            clear CV HU k2 k3 k4 k5 k6
            go_wp2
            go_ret
            exact ⟨rfl, HB4.out⟩
          · have q0 : (lg == 0) = false := by simpa using hl0
            rw [q0, Bool.false_or] at HM
            obtain ⟨o3, e3⟩ : ∃ o, okN lg = o := ⟨_, rfl⟩
            have NK := hide (numok_any lg w2)
            rw [e3] at HM NK
            clear hl0 e3
            go_wp2_with fail
            refine NK.out.mono ?_
            rintro e w3 ⟨rfl, hw3⟩
            subst hw3
            clear NK
            cases o3 with
            | false =>
              obtain rfl : M = false := by rw [HM.out]; rfl
              clear HM
              go_wp2
              go_ret
              exact ⟨rfl, HB2.out⟩
            | true =>
              obtain rfl : M = o4 := by rw [HM.out]; rfl
              clear HM
              go_wp2_with fail
              refine (CV.out _ _ HU.out).mono ?_
              rintro e w4 ⟨rfl, rfl⟩
              clear CV HU k2 k3 k4 k5 k6
              go_wp2
              go_ret
              exact ⟨rfl, HB4.out⟩
  · rw [show decide (dn ≤ 40) = false from decide_eq_false h40, Bool.false_and] at HM
    obtain rfl : M = false := HM.out
    have g3 : (40 : Int) < (dn : Int) := by omega
    clear HM
    go_enter Tryz.func76, Tryz.ntmps76
    go_wp2
    go_ret
    exact ⟨rfl, HB0.out⟩

end Go.Proofs.YtcahlmneancapaaGreatDoor.Clep

/- What the document's own Sum, Seal and Open (package clepsydraref1) do when called: for any text. No conditions but the kinds' own bounds. -/
namespace Go.Proofs.YtcahlmneancapaaGreatDoor.Clep
open Go.RowKit
set_option linter.unusedVariables false
set_option maxRecDepth 10000

theorem u32_odd (C : Nat) (h : C < 4294967296) (h2 : C % 2 = 1) : bits BinOp.xor IntKind.u32 ((C : Int) / 2) 2197175160 = ((stp C : Nat) : Int) := by
  rw [show (2197175160 : Int) = ((2197175160 : Nat) : Int) from rfl, show (C : Int) / 2 = ((C / 2 : Nat) : Int) from by omega, u32_xor_nat _ _ (by omega) (by omega)]
  unfold stp; rw [h2, Nat.one_mul]
theorem u32_even (C : Nat) (h2 : C % 2 = 0) : (C : Int) / 2 = ((stp C : Nat) : Int) := by
  unfold stp; rw [h2, Nat.zero_mul, Nat.xor_zero]; omega
theorem str_app (a b : List Int) : strOfNums a ++ strOfNums b = strOfNums (a ++ b) := by
  apply ByteArray.ext
  simp [strOfNums]

theorem str_take (zs : List Int) (n : Nat) (h : n ≤ zs.length) : (strOfNums zs).extract 0 n = strOfNums (zs.take n) := by
  apply ByteArray.ext
  simp [strOfNums, List.map_take]
theorem sl_iff (zs : List Int) (n : Nat) (hr : ByteL zs) (hn : zs.length = n + 4) : sl (zs.take n) = zs ↔ good zs n := by
  have hd : (zs.drop n).length = 4 := by rw [List.length_drop]; omega
  constructor
  · intro h
    have hl : (zs.take n).length = n := by rw [List.length_take]; omega
    have := good_sl (zs.take n) (ByteL.take hr n)
    rwa [h, hl] at this
  · intro h
    unfold good at h
    unfold sl
    have : le4 (crc (zs.take n)) 4 = zs.drop n := nn_inj _ _ (by rw [le4_len, hd]) (le4_range _ _) (ByteL.drop hr n) (by rw [nn_le4 _ (crc_lt _ (ByteL.take hr n)), h])
    rw [this, List.take_append_drop]

end Go.Proofs.YtcahlmneancapaaGreatDoor.Clep

/- What the own Num and Eight of the document do when called: for any number. No conditions. -/
namespace Go.Proofs.YtcahlmneancapaaGreatDoor.Clep
open Go.RowKit
set_option linter.unusedVariables false

end Go.Proofs.YtcahlmneancapaaGreatDoor.Clep
