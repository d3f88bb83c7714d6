/- What the document's own Unsign and Read do when called: for any text of at most 2^40 bytes. No conditions. -/
import Derived.Test.YtdldpdllhnpdaabZj
import Derived.Test.YtdldpdllhnpdaabZi
import Derived.Test.YtdldpdllhnpdaabZm
import Derived.Deep.RegionHeldLaw
namespace Go.Proofs.Ytdldpdllhnpdaab.Clep
open Go.RowKit
set_option linter.unusedVariables false
set_option maxRecDepth 10000

theorem and_one (n : Int) (h0 : 0 ≤ n) (h1 : n ≤ 18446744073709551615) : bits BinOp.and IntKind.u64 n 1 = n % 2 := by
  rw [u64_and n 1 h0 (by omega) (by omega) (by omega), show (1 : Int).toNat = 1 from rfl, nat_mask1]
  omega
theorem refunsign_any (n : Int) (w : World) (h0 : 0 ≤ n) (h1 : n ≤ 18446744073709551615) :
    Calls Try.prog 38 #[.int .u64 n] w fun e w' => e = .returned (.int .i64 (usgn n)) ∧ w' = w := by
  have ha := and_one n h0 h1
  by_cases hn : n % 2 = 1
  · have hs := hide (show usgn n = -(n / 2) - 1 by unfold usgn; rw [if_pos hn])
    have hb : (bits BinOp.and IntKind.u64 n 1 == 1) = true := by rw [ha, hn]; rfl
    clear ha
    go_enter Try.func38, Try.ntmps38
    go_wp2
    go_ret
    exact ⟨ret_eq (congrArg (Value.int IntKind.i64) (by rw [hs.out])), rfl⟩
  · have hs := hide (show usgn n = n / 2 by unfold usgn; rw [if_neg hn])
    have hb : (bits BinOp.and IntKind.u64 n 1 == 1) = false := by rw [ha]; simp; omega
    clear ha
    go_enter Try.func38, Try.ntmps38
    go_wp2
    go_ret
    exact ⟨ret_eq (congrArg (Value.int IntKind.i64) (by rw [hs.out])), rfl⟩

theorem sz_drop {s : ByteArray} {zs : List Int} (h : Sz s zs) (P : Nat) (hP : P ≤ s.size) : Sz (s.extract P s.size) (zs.drop P) := by
  refine ⟨by rw [ByteArray.size_extract, List.length_drop, h.1]; omega, fun k hk => ?_⟩
  have hk2 : P + k < s.size := by rw [ByteArray.size_extract] at hk; omega
  have := h.2 (P + k) hk2
  rw [ByteArray.getElem_extract]
  rw [this]
  simp [List.getD]
theorem item1_torn (s : List Int) (h : s.length < 2) : (item1 (s, 0)).2.2 = 4 := by
  match s, h with
  | [], _ => unfold item1; simp [one1, num1]
  | [c], _ => unfold item1; simp [one1, num1]
theorem item1_two (a b : Int) (r : List Int) : item1 (a :: b :: r, 0) = (⟨a, b, (num1 (r, 0)).1, (num1 (num1 (r, 0)).2).1, usgn (num1 (num1 (num1 (r, 0)).2).2).1⟩, (num1 (num1 (num1 (r, 0)).2).2).2) := rfl
theorem num1_at (zs : List Int) (P : Nat) (n q e : Int) (h : tk (zs.drop P) 0 0 = (n, q, e)) : num1 (zs.drop P, 0) = (n, zs.drop (P + q.toNat), e) := by
  unfold num1
  simp only [ne_eq, not_true_eq_false, if_false]
  rw [h, List.drop_drop]
theorem num1_bad' (s : List Int) (e : Int) (h : e ≠ 0) : num1 (s, e) = (0, s, e) := by unfold num1; rw [if_pos h]

/-- The three numbers of an array. -/
def Ar (w : World) (R : Nat) (a b c : Int) : Prop := (w.cell? ⟨R, 0, none⟩ = some (.int .u64 a) ∧ w.cell? ⟨R, 1, none⟩ = some (.int .u64 b) ∧ w.cell? ⟨R, 2, none⟩ = some (.int .u64 c)) ∧ (w.frozen? ⟨R, 0, none⟩ = false ∧ w.frozen? ⟨R, 1, none⟩ = false ∧ w.frozen? ⟨R, 2, none⟩ = false)
theorem ar_new (w : World) : Ar (w.alloc (Obj.cells #[Value.int IntKind.u64 0, Value.int IntKind.u64 0, Value.int IntKind.u64 0] 100)) w.heap.size 0 0 0 := by
  unfold Ar; simp [go_sem]

/-- Within a round: the item, the three numbers, the row so far. -/
def Inn (w W : World) (R A : Nat) (c0 c1 a b c : Int) (u : Value) (acc : List It) : Prop :=
  Vx W R c0 c1 0 0 0 ∧ Ar W A a b c ∧ OwnI W w.heap.size u acc ∧ Below w.heap.size w W ∧ R < A ∧ w.heap.size ≤ R ∧ ∀ k, u.ownBlock = some k → k < R
theorem Inn.set {w W : World} {R A : Nat} {c0 c1 a b c a' b' c' : Int} {u : Value} {acc : List It} (h : Inn w W R A c0 c1 a b c u acc) (j : Nat) (v : Value) (ha : Ar (W.setCell ⟨A, j, none⟩ v) A a' b' c') : Inn w (W.setCell ⟨A, j, none⟩ v) R A c0 c1 a' b' c' u acc := by
  obtain ⟨h1, _, h3, h4, h5, h6, h7⟩ := h
  refine ⟨h1.grown (gb_set W ⟨A, j, none⟩ v) (by simp; omega), ha, World.ownsRow.kept h3 (gb_set W ⟨A, j, none⟩ v) ?_, h4.setCell (show w.heap.size ≤ A by omega) v, h5, h6, h7⟩
  refine .inr fun e => ?_
  have := h7 A e
  omega
theorem ar_set0 {w : World} {R : Nat} {a b c : Int} (h : Ar w R a b c) (n : Int) : Ar (w.setCell ⟨R, 0, none⟩ (.int .u64 n)) R n b c := by
  obtain ⟨⟨h0, h1, h2⟩, f0, f1, f2⟩ := h
  refine ⟨⟨?_, ?_, ?_⟩, by simpa using f0, by simpa using f1, by simpa using f2⟩
  · rw [World.cell?_setCell_same (h := h0)]
  · rw [World.cell?_setCell_other (h := by simp)]; exact h1
  · rw [World.cell?_setCell_other (h := by simp)]; exact h2
theorem ar_set1 {w : World} {R : Nat} {a b c : Int} (h : Ar w R a b c) (n : Int) : Ar (w.setCell ⟨R, 1, none⟩ (.int .u64 n)) R a n c := by
  obtain ⟨⟨h0, h1, h2⟩, f0, f1, f2⟩ := h
  refine ⟨⟨?_, ?_, ?_⟩, by simpa using f0, by simpa using f1, by simpa using f2⟩
  · rw [World.cell?_setCell_other (h := by simp)]; exact h0
  · rw [World.cell?_setCell_same (h := h1)]
  · rw [World.cell?_setCell_other (h := by simp)]; exact h2
theorem ar_set2 {w : World} {R : Nat} {a b c : Int} (h : Ar w R a b c) (n : Int) : Ar (w.setCell ⟨R, 2, none⟩ (.int .u64 n)) R a b n := by
  obtain ⟨⟨h0, h1, h2⟩, f0, f1, f2⟩ := h
  refine ⟨⟨?_, ?_, ?_⟩, by simpa using f0, by simpa using f1, by simpa using f2⟩
  · rw [World.cell?_setCell_other (h := by simp)]; exact h0
  · rw [World.cell?_setCell_other (h := by simp)]; exact h1
  · rw [World.cell?_setCell_same (h := h2)]
/-- Three numbers from place P on: the numbers, the places behind each, the errors. -/
theorem three_at (zs : List Int) (P : Nat) (T q1 e3 V q2 e4 M q3 e5 : Int) (h1 : tk (zs.drop P) 0 0 = (T, q1, e3)) (h2 : tk (zs.drop (P + q1.toNat)) 0 0 = (V, q2, e4)) (h3 : tk (zs.drop (P + q1.toNat + q2.toNat)) 0 0 = (M, q3, e5)) (a b : Int) :
    (e3 ≠ 0 → (item1 (a :: b :: zs.drop P, 0)).2.2 = e3) ∧ (e3 = 0 → e4 ≠ 0 → (item1 (a :: b :: zs.drop P, 0)).2.2 = e4) ∧ (e3 = 0 → e4 = 0 → e5 ≠ 0 → (item1 (a :: b :: zs.drop P, 0)).2.2 = e5) ∧
      (e3 = 0 → e4 = 0 → e5 = 0 → item1 (a :: b :: zs.drop P, 0) = (⟨a, b, T, V, usgn M⟩, zs.drop (P + q1.toNat + q2.toNat + q3.toNat), 0)) := by
  rw [item1_two, num1_at zs P T q1 e3 h1]
  refine ⟨fun h => ?_, fun h h' => ?_, fun h h' h'' => ?_, fun h h' h'' => ?_⟩
  · simp only [num1_bad' _ _ h]
  · subst h
    simp only [num1_at zs _ V q2 e4 h2, num1_bad' _ _ h']
  · subst h h'
    simp only [num1_at zs _ V q2 0 h2, num1_at zs _ M q3 e5 h3]
  · subst h h' h''
    simp only [num1_at zs _ V q2 0 h2, num1_at zs _ M q3 0 h3]

set_option maxHeartbeats 8000000 in
set_option maxRecDepth 8000 in
theorem refread_core (s : ByteArray) (len : Nat) (zs : List Int) (w : World) (hlen : s.size = len) (hm : len ≤ 1099511627776) (hs : Sz s zs) (hzr0 : ∀ z ∈ zs, 0 ≤ z ∧ z < 256) (n S0 e1 : Int) (hT : Hid (tk zs 0 0 = (n, S0, e1))) (RR : List It × Int) (hrr : Hid (rd zs = RR)) :
    Calls Try.prog 23 #[.string s] w fun e w' => ∃ v, e = .returned (.tuple #[v, .int .i64 RR.2]) ∧ OwnI w' w.heap.size v RR.1 ∧ Below w.heap.size w w' := by
  have HS := hide hs
  have hzr := hide hzr0
  have hzl : Hid (zs.length = len) := hide (by rw [← hs.1]; exact hlen)
  have HL := hide hlen
  have hsz0 : s.size ≤ 1099511627776 := by omega
  have hlen2 : len ≤ s.size ∧ s.size ≤ len := by omega
  clear hs hzr0 hlen
  have hf := tk_facts zs 0 0 (by omega) hzr.out (by omega) (by simp)
  have hsz := tk_size zs 0 0 (by omega)
  rw [hT.out] at hf hsz
  simp only at hf hsz
  have hn1 := hide (show num1 (zs, 0) = (n, zs.drop S0.toNat, e1) by have := num1_at zs 0 n S0 e1 (by rw [List.drop_zero]; exact hT.out); rwa [List.drop_zero, Nat.zero_add] at this)
  obtain ⟨P0, hP0⟩ : ∃ P0 : Nat, S0 = (P0 : Int) := ⟨S0.toNat, by omega⟩
  subst hP0
  have hP0l : P0 ≤ len := by have := hzl.out; omega
  rw [Int.toNat_natCast] at hn1
  go_enter Try.func23, Try.ntmps23
  go_wp2_with fail
  refine (reftake_any s zs w (by omega) HS.out (range_of hzr.out)).mono ?_
  rw [hT.out]
  rintro e w1 ⟨rfl, hw⟩
  rw [hw]
  clear hw
  unfold tup
  by_cases hE : e1 = 0
  · subst hE
    by_cases hl : 2000 < n
    · have hRR := hide (show RR = ([], 2) by rw [← hrr.out]; unfold rd; rw [hn1.out]; simp [hl])
      go_wp2
      go_ret2
      rw [hRR.out]
      exact ⟨_, rfl, ownI_nil _ _, Below.refl _ _⟩
    · have hRR := hide (show RR = (if (rds n.toNat (zs.drop P0, 0) []).2.2 ≠ 0 then ([], (rds n.toNat (zs.drop P0, 0) []).2.2) else if (rds n.toNat (zs.drop P0, 0) []).1.all It.ok = true ∧ (rds n.toNat (zs.drop P0, 0) []).2.1 = [] then ((rds n.toNat (zs.drop P0, 0) []).1, 0) else ([], 3)) by
        rw [← hrr.out]; unfold rd; rw [hn1.out]; simp [hl])
      clear hrr
      obtain ⟨N, rfl⟩ := Int.eq_ofNat_of_zero_le hf.1
      have hN : N ≤ 2000 := by omega
      rw [show ((N : Int)).toNat = N from rfl] at hRR
      obtain ⟨T0, hT0⟩ : ∃ T0, rds N (zs.drop P0, 0) [] = T0 := ⟨_, rfl⟩
      rw [hT0] at hRR
      have hRR2 := hide hT0
      clear hT0 hf hsz hT hn1
      go_wp2_with fail
      go_loopw [5, 7, 8, 9] (fun t u bd i wr => ∃ (k P : Nat) (acc : List It), k ≤ N ∧ t = .int .i64 P ∧ bd = .bool (!acc.all It.ok) ∧ i = .int .u64 k ∧ P ≤ len ∧ acc.length = k ∧ Hid (OwnI wr w.heap.size u acc) ∧ Hid (∀ x ∈ acc, x.wf) ∧ Hid (rds (N - k) (zs.drop P, 0) acc = T0) ∧ Hid (Below w.heap.size w wr)) (fun _ _ _ i _ => N - (intOf i).toNat)
      case atStart => exact ⟨0, P0, [], by omega, rfl, by simp, rfl, hP0l, rfl, hide (ownI_nil _ _), hide (by simp), hRR2, hide (Below.refl _ _)⟩
      case round =>
        obtain ⟨k, P, acc, hk, rfl, rfl, rfl, hP, hacc, hown, hwf, ht, hbel⟩ := hrel
        by_cases hlt : k < N
        · have hstep := hide (show (if (item1 (zs.drop P, 0)).2.2 ≠ 0 then ([], (item1 (zs.drop P, 0)).2) else rds (N - (k + 1)) (item1 (zs.drop P, 0)).2 (acc ++ [(item1 (zs.drop P, 0)).1])) = T0 by
            rw [← ht.out, show N - k = N - (k + 1) + 1 from by omega, rds])
          have hxw := hide (item1_wf (zs.drop P, 0) (fun z hz => hzr.out z (List.mem_of_mem_drop hz)))
          clear ht
          by_cases h2 : len < P + 2
          · have h4 := hide (item1_torn (zs.drop P) (by rw [List.length_drop, hzl.out]; omega))
            have hRE := hide (show RR = ([], 4) by
              have h5 : (item1 (zs.drop P, 0)).2.2 ≠ 0 := by rw [h4.out]; decide
              have h6 := hstep.out
              rw [if_pos h5] at h6
              rw [hRR.out, ← h6]
              simp [h4.out])
            have hlt2 : (len : Int) - (P : Int) < 2 := by omega
            have hlt3 : (s.size : Int) - (P : Int) < 2 := by omega
            clear hstep
            go_wp2
            go_ret2
            rw [hRE.out]
            exact ⟨_, rfl, ownI_nil _ _, hbel.out⟩
          · have hge : ¬ (s.size : Int) - (P : Int) < 2 := by omega
            have hp0 := HS.out.2 P (by omega)
            have hp1 := HS.out.2 (P + 1) (by omega)
            have hpl : P < s.size := by omega
            have hpl1 : P + 1 < s.size := by omega
            have hdr := hide (show zs.drop P = zs.getD P 0 :: zs.getD (P + 1) 0 :: zs.drop (P + 2) by
              rw [drop_get zs P (by rw [hzl.out]; omega), drop_get zs (P + 1) (by rw [hzl.out]; omega)])
            have hc0 := range_of hzr.out P
            have hc1 := range_of hzr.out (P + 1)
            generalize zs.getD P 0 = c0 at *
            generalize zs.getD (P + 1) 0 = c1 at *
            have hw0 : wrap64 c0 = c0 := by unfold wrap64; omega
            have hw1 : wrap64 c1 = c1 := by unfold wrap64; omega
            rw [hdr.out] at hstep hxw
            have X0 := hide (vx_new wr c0 c1 0 0 0)
            have B0 := hide (bmore hbel.out ((Below.refl _ wr).alloc (Nat.le_refl _) (Obj.cells #[Value.int IntKind.i64 c0, Value.int IntKind.i64 c1, Value.int IntKind.u64 0, Value.int IntKind.u64 0, Value.int IntKind.i64 0] 66)))
            have hub := hide (fun j hj => (World.ownsRow.lt hown.out j hj).2)
            have O0 := hide (ownI_keep hown.out ((Below.refl _ wr).alloc (Nat.le_refl _) (Obj.cells #[Value.int IntKind.i64 c0, Value.int IntKind.i64 c1, Value.int IntKind.u64 0, Value.int IntKind.u64 0, Value.int IntKind.i64 0] 66)))
            go_wp2_with fail
            go_region
            generalize hw2 : (wr.alloc (Obj.cells #[Value.int IntKind.i64 c0, Value.int IntKind.i64 c1, Value.int IntKind.u64 0, Value.int IntKind.u64 0, Value.int IntKind.i64 0] 66)).drew = w2
            have J2 : Vx w2 wr.heap.size c0 c1 0 0 0 ∧ OwnI w2 w.heap.size u7 acc ∧ Below w.heap.size w w2 ∧ wr.heap.size < w2.heap.size := by
              rw [← hw2]
              exact ⟨X0.out, O0.out, B0.out.drew, X0.out.lt⟩
            have hwr := hide hbel.out.size
            have hA0 := hide (show Inn w (w2.alloc (Obj.cells #[Value.int IntKind.u64 0, Value.int IntKind.u64 0, Value.int IntKind.u64 0] 100)) wr.heap.size w2.heap.size c0 c1 0 0 0 u7 acc from
              ⟨J2.1.grown (gb_below ((Below.refl _ _).alloc (Nat.le_refl _) _) none) (by simp), ar_new w2, ownI_keep J2.2.1 ((Below.refl _ _).alloc (Nat.le_refl _) _), J2.2.2.1.alloc J2.2.2.1.size _, J2.2.2.2, hwr.out, hub.out⟩)
            clear hw2 J2 X0 B0 O0 hown hbel hp0 hp1 hw0 hw1
            obtain ⟨T, q1', e3, h3⟩ : ∃ T q e, tk (zs.drop (P + 2)) 0 0 = (T, q, e) := ⟨_, _, _, rfl⟩
            have f3 := tk_facts (zs.drop (P + 2)) 0 0 (by omega) (fun z hz => hzr.out z (List.mem_of_mem_drop hz)) (by omega) (by simp)
            have z3 := tk_size (zs.drop (P + 2)) 0 0 (by omega)
            rw [h3] at f3 z3
            simp only [List.length_drop] at f3 z3
            obtain ⟨q1, rfl⟩ : ∃ q1 : Nat, q1' = (q1 : Int) := ⟨q1'.toNat, by omega⟩
            obtain ⟨V, q2', e4, h4⟩ : ∃ T q e, tk (zs.drop (P + 2 + q1)) 0 0 = (T, q, e) := ⟨_, _, _, rfl⟩
            have f4 := tk_facts (zs.drop (P + 2 + q1)) 0 0 (by omega) (fun z hz => hzr.out z (List.mem_of_mem_drop hz)) (by omega) (by simp)
            have z4 := tk_size (zs.drop (P + 2 + q1)) 0 0 (by omega)
            rw [h4] at f4 z4
            simp only [List.length_drop] at f4 z4
            obtain ⟨q2, rfl⟩ : ∃ q1 : Nat, q2' = (q1 : Int) := ⟨q2'.toNat, by omega⟩
            obtain ⟨M, q3', e5, h5⟩ : ∃ T q e, tk (zs.drop (P + 2 + q1 + q2)) 0 0 = (T, q, e) := ⟨_, _, _, rfl⟩
            have f5 := tk_facts (zs.drop (P + 2 + q1 + q2)) 0 0 (by omega) (fun z hz => hzr.out z (List.mem_of_mem_drop hz)) (by omega) (by simp)
            have z5 := tk_size (zs.drop (P + 2 + q1 + q2)) 0 0 (by omega)
            rw [h5] at f5 z5
            simp only [List.length_drop] at f5 z5
            obtain ⟨q3, rfl⟩ : ∃ q1 : Nat, q3' = (q1 : Int) := ⟨q3'.toNat, by omega⟩
            have h33 := three_at zs (P + 2) T q1 e3 V q2 e4 M q3 e5 h3 (by simpa using h4) (by simpa using h5) c0 c1
            simp only [Int.toNat_natCast] at h33
            have hl3 := hzl.out
            have H33 := hide h33
            have H3 := hide h3
            have H4 := hide h4
            have H5 := hide h5
            have hq : P + 2 + q1 ≤ len ∧ P + 2 + q1 + q2 ≤ len ∧ P + 2 + q1 + q2 + q3 ≤ len := by omega
            have hr1 := f3.1
            have hr2 := f3.2.1
            have hr3 := f4.1
            have hr4 := f4.2.1
            have hr5 := f5.1
            have hr6 := f5.2.1
            have hErr := hide (fun (e : Int) (h : (item1 (c0 :: c1 :: zs.drop (P + 2), 0)).2.2 = e) (he : e ≠ 0) => show RR = ([], e) by
              have h6 := hstep.out
              rw [if_pos (by rw [h]; exact he)] at h6
              rw [hRR.out, ← h6]
              simp [h, he])
            clear h33 h3 h4 h5 f3 f4 f5 z3 z4 z5 hl3
            go_wp2_with fail
            generalize w2.heap.size = A at *
            generalize wr.heap.size = R at *
            go_loopw [5, 12] (fun t j wi => ∃ jj : Nat, jj ≤ 3 ∧ j = .int .i64 jj ∧
              ((jj = 0 ∧ t = .int .i64 ((P + 2 : Nat) : Int) ∧ Hid (Inn w wi R A c0 c1 0 0 0 u7 acc)) ∨
               (jj = 1 ∧ e3 = 0 ∧ t = .int .i64 ((P + 2 + q1 : Nat) : Int) ∧ Hid (Inn w wi R A c0 c1 T 0 0 u7 acc)) ∨
               (jj = 2 ∧ (e3 = 0 ∧ e4 = 0) ∧ t = .int .i64 ((P + 2 + q1 + q2 : Nat) : Int) ∧ Hid (Inn w wi R A c0 c1 T V 0 u7 acc)) ∨
               (jj = 3 ∧ (e3 = 0 ∧ e4 = 0 ∧ e5 = 0) ∧ t = .int .i64 ((P + 2 + q1 + q2 + q3 : Nat) : Int) ∧ Hid (Inn w wi R A c0 c1 T V M u7 acc)))) (fun _ j _ => 3 - (intOf j).toNat)
            case atStart => exact ⟨0, by omega, rfl, .inl ⟨rfl, by first | rfl | go_num, hA0⟩⟩
            case round =>
              obtain ⟨jj, hjj, rfl, ⟨rfl, rfl, hin⟩ | ⟨rfl, g3, rfl, hin⟩ | ⟨rfl, ⟨g3, g4⟩, rfl, hin⟩ | ⟨rfl, ⟨g3, g4, g5⟩, rfl, hin⟩⟩ := hrel
              · have hPs : P + 2 ≤ s.size := by omega
                have q := hin.out.2.1
                unfold Ar at q
                obtain ⟨⟨k0, k1, k2⟩, f0, f1, f2⟩ := q
                go_wp2_with fail
                refine (reftake_any (s.extract (P + 2) s.size) (zs.drop (P + 2)) wr (by rw [ByteArray.size_extract]; omega) (sz_drop HS.out (P + 2) hPs) (range_of fun z hz => hzr.out z (List.mem_of_mem_drop hz))).mono ?_
                rw [H3.out]
                rintro en w3 ⟨rfl, hw⟩
                rw [hw]
                clear hw
                unfold tup
                by_cases he : e3 = 0
                · have heb : (e3 != 0) = false := by simp [he]
                  have I1 := hide (hin.out.set 0 (.int .u64 T) (ar_set0 hin.out.2.1 T))
                  have HE := hide he
                  clear he
                  go_wp2
                  go_roundw
                  case rel => have he := HE.out; exact ⟨1, by omega, by first | rfl | go_num, .inr (.inl ⟨rfl, he, by first | rfl | go_num, I1⟩)⟩
                  case measure => simp [intOf]
                · have heb : (e3 != 0) = true := by simp [he]
                  have hRE := hide (hErr.out e3 (H33.out.1 he) he)
                  clear he
                  go_wp2
                  go_ret2
                  rw [hRE.out]
                  exact ⟨_, rfl, ownI_nil _ _, hin.out.2.2.2.1⟩
              · have G3 := hide g3
                clear g3
                have hPs : P + 2 + q1 ≤ s.size := by omega
                have q := hin.out.2.1
                unfold Ar at q
                obtain ⟨⟨k0, k1, k2⟩, f0, f1, f2⟩ := q
                go_wp2_with fail
                refine (reftake_any (s.extract (P + 2 + q1) s.size) (zs.drop (P + 2 + q1)) wr (by rw [ByteArray.size_extract]; omega) (sz_drop HS.out (P + 2 + q1) hPs) (range_of fun z hz => hzr.out z (List.mem_of_mem_drop hz))).mono ?_
                rw [H4.out]
                rintro en w3 ⟨rfl, hw⟩
                rw [hw]
                clear hw
                unfold tup
                by_cases he : e4 = 0
                · have heb : (e4 != 0) = false := by simp [he]
                  have I1 := hide (hin.out.set 1 (.int .u64 V) (ar_set1 hin.out.2.1 V))
                  have HE := hide he
                  clear he
                  go_wp2
                  go_roundw
                  case rel => have he := HE.out; exact ⟨2, by omega, by first | rfl | go_num, .inr (.inr (.inl ⟨rfl, ⟨G3.out, he⟩, by first | rfl | go_num, I1⟩))⟩
                  case measure => simp [intOf]
                · have heb : (e4 != 0) = true := by simp [he]
                  have hRE := hide (hErr.out e4 (H33.out.2.1 G3.out he) he)
                  clear he
                  go_wp2
                  go_ret2
                  rw [hRE.out]
                  exact ⟨_, rfl, ownI_nil _ _, hin.out.2.2.2.1⟩
              · have G3 := hide g3
                have G4 := hide g4
                clear g3 g4
                have hPs : P + 2 + q1 + q2 ≤ s.size := by omega
                have q := hin.out.2.1
                unfold Ar at q
                obtain ⟨⟨k0, k1, k2⟩, f0, f1, f2⟩ := q
                go_wp2_with fail
                refine (reftake_any (s.extract (P + 2 + q1 + q2) s.size) (zs.drop (P + 2 + q1 + q2)) wr (by rw [ByteArray.size_extract]; omega) (sz_drop HS.out (P + 2 + q1 + q2) hPs) (range_of fun z hz => hzr.out z (List.mem_of_mem_drop hz))).mono ?_
                rw [H5.out]
                rintro en w3 ⟨rfl, hw⟩
                rw [hw]
                clear hw
                unfold tup
                by_cases he : e5 = 0
                · have heb : (e5 != 0) = false := by simp [he]
                  have I1 := hide (hin.out.set 2 (.int .u64 M) (ar_set2 hin.out.2.1 M))
                  have HE := hide he
                  clear he
                  go_wp2
                  go_roundw
                  case rel => have he := HE.out; exact ⟨3, by omega, by first | rfl | go_num, .inr (.inr (.inr ⟨rfl, ⟨G3.out, G4.out, he⟩, by first | rfl | go_num, I1⟩))⟩
                  case measure => simp [intOf]
                · have heb : (e5 != 0) = true := by simp [he]
                  have hRE := hide (hErr.out e5 (H33.out.2.2.1 G3.out G4.out he) he)
                  clear he
                  go_wp2
                  go_ret2
                  rw [hRE.out]
                  exact ⟨_, rfl, ownI_nil _ _, hin.out.2.2.2.1⟩
              · subst g3
                subst g4
                subst g5
                have hit := H33.out.2.2.2 rfl rfl rfl
                have hst := hide (show rds (N - (k + 1)) (zs.drop (P + 2 + q1 + q2 + q3), 0) (acc ++ [⟨c0, c1, T, V, usgn M⟩]) = T0 by
                  have h6 := hstep.out
                  rw [hit] at h6
                  simpa using h6)
                have hxw2 := hide (show It.wf ⟨c0, c1, T, V, usgn M⟩ by have h6 := hxw.out; rw [hit] at h6; exact h6)
                clear hit hstep hxw hErr H33 H3 H4 H5
                have hRA : R < A := hin.out.2.2.2.2.1
                have qa := hin.out.2.1
                unfold Ar at qa
                obtain ⟨⟨k0, k1, k2⟩, -⟩ := qa
                have qx := hin.out.1.1
                have fx := hin.out.1.2
                unfold Vi at qx
                unfold Vf at fx
                simp only [Nat.zero_add] at qx fx
                obtain ⟨y0, y1, y2, y3, y4⟩ := qx
                obtain ⟨t0, t1, t2, t3, t4⟩ := fx
                have cU : Hid (∀ W : World, Calls Try.prog 38 #[.int .u64 M] W fun e w' => e = .returned (.int .i64 (usgn M)) ∧ w' = W) := hide fun W => refunsign_any M W hr5 hr6
                have hKd : Hid (∀ W : World, (W.cell? ⟨A, 0, none⟩ = some (.int .u64 T) ∧ W.cell? ⟨A, 1, none⟩ = some (.int .u64 V) ∧ W.cell? ⟨A, 2, none⟩ = some (.int .u64 M)) → (W.drew.cell? ⟨A, 0, none⟩ = some (.int .u64 T) ∧ W.drew.cell? ⟨A, 1, none⟩ = some (.int .u64 V) ∧ W.drew.cell? ⟨A, 2, none⟩ = some (.int .u64 M))) := hide fun W h => h
                have hKs : Hid (∀ (W : World) (j : Nat) (v : Value), (W.cell? ⟨A, 0, none⟩ = some (.int .u64 T) ∧ W.cell? ⟨A, 1, none⟩ = some (.int .u64 V) ∧ W.cell? ⟨A, 2, none⟩ = some (.int .u64 M)) → ((W.setCell ⟨R, j, none⟩ v).cell? ⟨A, 0, none⟩ = some (.int .u64 T) ∧ (W.setCell ⟨R, j, none⟩ v).cell? ⟨A, 1, none⟩ = some (.int .u64 V) ∧ (W.setCell ⟨R, j, none⟩ v).cell? ⟨A, 2, none⟩ = some (.int .u64 M))) := hide fun W j v h => by
                  obtain ⟨a, b, c⟩ := h
                  refine ⟨?_, ?_, ?_⟩ <;> rw [World.cell?_setCell_other (h := by intro e; injection e; omega)] <;> assumption
                have hK0 : wr.cell? ⟨A, 0, none⟩ = some (.int .u64 T) ∧ wr.cell? ⟨A, 1, none⟩ = some (.int .u64 V) ∧ wr.cell? ⟨A, 2, none⟩ = some (.int .u64 M) := ⟨k0, k1, k2⟩
                go_wp2_with fail
                go_region_held_law (fun W => W.cell? ⟨A, 0, none⟩ = some (.int .u64 T) ∧ W.cell? ⟨A, 1, none⟩ = some (.int .u64 V) ∧ W.cell? ⟨A, 2, none⟩ = some (.int .u64 M))
                  (first
                  | exact hKd.out _ (by assumption)
                  | exact hKs.out _ _ _ (by assumption)
                  | exact hKd.out _ (hKs.out _ _ _ (by assumption))
                  | exact hKs.out _ _ _ (hKd.out _ (by assumption)))
                  (first
                  | (go_at_call 38; refine (cU.out _).mono ?_; rintro e w' ⟨rfl, rfl⟩))
                have X4 := hide ((((hin.out.1.set2 T).set3 V).set4 (usgn M)))
                have g1 := gb_set wr ⟨R, 2, none⟩ (.int .u64 T)
                have g2 := g1.trans (gb_set _ ⟨R, 3, none⟩ (.int .u64 V))
                have g3 := g2.trans (gb_set _ ⟨R, 4, none⟩ (.int .i64 (usgn M)))
                have O4 := hide (show OwnI _ w.heap.size u7 acc from World.ownsRow.kept hin.out.2.2.1 g3 (.inr fun e => by have := hin.out.2.2.2.2.2.2 R e; omega))
                have B4 := hide (hin.out.2.2.2.1.grown g3 hin.out.2.2.2.1.size (fun j hj => by cases hj; exact hin.out.2.2.2.2.2.1))
                have hwf3 := hide (show ∀ x ∈ acc ++ [(⟨c0, c1, T, V, usgn M⟩ : It)], x.wf from fun x hx => by
                  rcases List.mem_append.1 hx with h | h
                  · exact hwf.out x h
                  · rw [List.mem_singleton.1 h]; exact hxw2.out)
                have hal := hide (show acc.length + 1 ≤ 3518437208883 by rw [hacc]; omega)
                generalize hw4 : (((wr.setCell ⟨R, 2, none⟩ (.int .u64 T)).setCell ⟨R, 3, none⟩ (.int .u64 V)).setCell ⟨R, 4, none⟩ (.int .i64 (usgn M))) = w4 at *
                have X5 := hide (show Vi w4.drew R 0 c0 c1 T V (usgn M) from X4.out.1)
                have O5 := hide (show OwnI w4.drew w.heap.size u7 acc from O4.out)
                have B5 := hide (B4.out.drew)
                rename_i hHeld
                clear hw4 X4 g1 g2 g3 O4 B4 hHeld hin cU hKd hKs hK0 k0 k1 k2 y0 y1 y2 y3 y4 t0 t1 t2 t3 t4
                generalize w4.drew = w5 at *
                cases hb : acc.all It.ok with
                | false =>
                  have I5 := is_one w5 c0 c1 T V (usgn M) hxw2.out
                  have IS5 := hide I5
                  have O6 := hide (ownI_keep O5.out ((Below.refl _ _).alloc (Nat.le_refl _) (Obj.cells #[Value.int IntKind.i64 c0, Value.int IntKind.i64 c1, Value.int IntKind.u64 T, Value.int IntKind.u64 V, Value.int IntKind.i64 (usgn M)] 66)))
                  have B6 := hide (B5.out.alloc B5.out.size (Obj.cells #[Value.int IntKind.i64 c0, Value.int IntKind.i64 c1, Value.int IntKind.u64 T, Value.int IntKind.u64 V, Value.int IntKind.i64 (usgn M)] 66))
                  clear I5
                  have q := X5.out
                  unfold Vi at q
                  simp only [Nat.zero_add] at q
                  obtain ⟨x0, x1, x2, x3, x4⟩ := q
                  go_wp2_with (first
                    | (at_builtin; refine wpList_append_items rfl _ _ rfl w.heap.size _ acc rfl O6.out _ 1 1 _ rfl IS5.out hal.out B6.out.size ?_)
                    | fail)
                  intro v7 w7 o7 g7 k7
                  have O7 := hide o7
                  have B7 := hide (B6.out.grown g7 B6.out.size k7)
                  clear o7 g7 k7 O6 B6 IS5 O5 B5 X5 x0 x1 x2 x3 x4
                  go_wp2
                  go_roundw
                  case rel => exact ⟨k + 1, P + 2 + q1 + q2 + q3, acc ++ [⟨c0, c1, T, V, usgn M⟩], by omega, by first | rfl | go_num, by rw [List.all_append, hb]; rfl, by go_num, by omega, by rw [List.length_append, hacc]; rfl, O7, hwf3, hst, B7⟩
                  case measure => simp [intOf]; omega
                | true =>
                  have q := X5.out
                  unfold Vi at q
                  simp only [Nat.zero_add] at q
                  obtain ⟨x0, x1, x2, x3, x4⟩ := q
                  go_wp2_with fail
                  refine (refok_any c0 c1 T V (usgn M) w5).mono ?_
                  rintro e w6 ⟨rfl, b6⟩
                  have hbd := hide (show (!(acc ++ [(⟨c0, c1, T, V, usgn M⟩ : It)]).all It.ok) = !okI c0 c1 T V (usgn M) by rw [List.all_append, hb]; simp [It.ok])
                  have X6 := X5.out.keep b6
                  have O6' := ownI_keep O5.out b6
                  have B6' := bmore B5.out b6
                  clear b6 X5 O5 B5 x0 x1 x2 x3 x4
                  have X5 := hide X6
                  have O5 := hide O6'
                  have B5 := hide B6'
                  clear X6 O6' B6'
                  generalize okI c0 c1 T V (usgn M) = ob at *
                  generalize w6 = w5 at *
                  have I5 := is_one w5 c0 c1 T V (usgn M) hxw2.out
                  have IS5 := hide I5
                  have O6 := hide (ownI_keep O5.out ((Below.refl _ _).alloc (Nat.le_refl _) (Obj.cells #[Value.int IntKind.i64 c0, Value.int IntKind.i64 c1, Value.int IntKind.u64 T, Value.int IntKind.u64 V, Value.int IntKind.i64 (usgn M)] 66)))
                  have B6 := hide (B5.out.alloc B5.out.size (Obj.cells #[Value.int IntKind.i64 c0, Value.int IntKind.i64 c1, Value.int IntKind.u64 T, Value.int IntKind.u64 V, Value.int IntKind.i64 (usgn M)] 66))
                  clear I5
                  have q := X5.out
                  unfold Vi at q
                  simp only [Nat.zero_add] at q
                  obtain ⟨x0, x1, x2, x3, x4⟩ := q
                  go_wp2_with (first
                    | (at_builtin; refine wpList_append_items rfl _ _ rfl w.heap.size _ acc rfl O6.out _ 1 1 _ rfl IS5.out hal.out B6.out.size ?_)
                    | fail)
                  intro v7 w7 o7 g7 k7
                  have O7 := hide o7
                  have B7 := hide (B6.out.grown g7 B6.out.size k7)
                  clear o7 g7 k7 O6 B6 IS5 O5 B5 X5 x0 x1 x2 x3 x4
                  go_wp2
                  go_roundw
                  case rel => exact ⟨k + 1, P + 2 + q1 + q2 + q3, acc ++ [⟨c0, c1, T, V, usgn M⟩], by omega, by first | rfl | go_num, by rw [hbd.out], by go_num, by omega, by rw [List.length_append, hacc]; rfl, O7, hwf3, hst, B7⟩
                  case measure => simp [intOf]; omega
        · obtain rfl : k = N := by omega
          have hT2 := hide (show T0 = (acc, zs.drop P, 0) by rw [← ht.out, Nat.sub_self, rds])
          cases hb : acc.all It.ok with
          | false =>
            have hRE := hide (show RR = ([], 3) by rw [hRR.out, hT2.out]; simp [hb])
            clear hRR hT2
            go_wp2
            go_ret2
            rw [hRE.out]
            exact ⟨_, rfl, ownI_nil _ _, hbel.out⟩
          | true =>
            by_cases hPl : P < len
            · have hRE := hide (show RR = ([], 3) by
                rw [hRR.out, hT2.out]
                have : zs.drop P ≠ [] := by intro e; have h1 := congrArg List.length e; rw [List.length_drop, hzl.out] at h1; simp at h1; omega
                simp [hb, this])
              have hlt2 : (P : Int) < (s.size : Int) := by omega
              clear hRR hT2
              go_wp2
              go_ret2
              rw [hRE.out]
              exact ⟨_, rfl, ownI_nil _ _, hbel.out⟩
            · have hRE := hide (show RR = (acc, 0) by
                rw [hRR.out, hT2.out]
                have : zs.drop P = [] := List.drop_eq_nil_of_le (by rw [hzl.out]; omega)
                simp [hb, this])
              have hlt2 : ¬ (P : Int) < (s.size : Int) := by omega
              clear hRR hT2
              go_wp2
              go_ret2
              rw [hRE.out]
              exact ⟨_, rfl, hown.out, hbel.out⟩
  · have hEb : (e1 != 0) = true := by simp [hE]
    have hRE := hide (show RR = ([], e1) by rw [← hrr.out]; unfold rd; rw [hn1.out]; simp [hE])
    clear hE
    go_wp2
    go_ret2
    rw [hRE.out]
    exact ⟨_, rfl, ownI_nil _ _, Below.refl _ _⟩
theorem refread_any (s : ByteArray) (len : Nat) (zs : List Int) (w : World) (hlen : s.size = len) (hm : len ≤ 1099511627776) (hs : Sz s zs) (hzr0 : ∀ z ∈ zs, 0 ≤ z ∧ z < 256) :
    Calls Try.prog 23 #[.string s] w fun e w' => ∃ v, e = .returned (.tuple #[v, .int .i64 (rd zs).2]) ∧ OwnI w' w.heap.size v (rd zs).1 ∧ Below w.heap.size w w' :=
  refread_core s len zs w hlen hm hs hzr0 _ _ _ (hide rfl) _ (hide rfl)

end Go.Proofs.Ytdldpdllhnpdaab.Clep
