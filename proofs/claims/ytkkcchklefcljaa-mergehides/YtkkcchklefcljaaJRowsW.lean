/- What the document's own Rows does when called: for any rows of items. Conditions: at most 2^41 items in all. -/
import Derived.Test.YtkkcchklefcljaaJRows
import Derived.Test.YtkkcchklefcljaaSVx
namespace Go.Proofs.Ytkkcchklefcljaa.Clep
open Go.RowKit
set_option linter.unusedVariables false

/-- Two rows, laid together so far as j of the one and k of the other. -/
structure Mg (W1 wr : World) (v : Value) (acc out l : List It) (j k : Nat) : Prop where
  own : OwnI wr W1.heap.size v acc
  eq : acc ++ mg (out.drop j) (l.drop k) = mg out l
  bel : Below W1.heap.size W1 wr
  len : acc.length ≤ j + k
theorem drop_it (l : List It) (k : Nat) (x : It) (h : l[k]? = some x) : l.drop k = x :: l.drop (k + 1) := by
  obtain ⟨hk, he⟩ := List.getElem?_eq_some_iff.1 h
  rw [List.drop_eq_getElem_cons hk, he]
theorem mg_s1 {acc out l : List It} {j k : Nat} {x y : It} (h : acc ++ mg (out.drop j) (l.drop k) = mg out l) (hy : out[j]? = some y) (hx : l[k]? = some x) (hs : y.same x = true) : (acc ++ [if x.wins y then x else y]) ++ mg (out.drop (j + 1)) (l.drop (k + 1)) = mg out l := by
  rw [drop_it out j y hy, drop_it l k x hx, mg_cons, hs, if_pos rfl] at h
  rw [← h]; simp
theorem mg_s2 {acc out l : List It} {j k : Nat} {x y : It} (h : acc ++ mg (out.drop j) (l.drop k) = mg out l) (hy : out[j]? = some y) (hx : l[k]? = some x) (hs : y.same x = false) (hl : y.less x = true) : (acc ++ [y]) ++ mg (out.drop (j + 1)) (l.drop k) = mg out l := by
  rw [drop_it out j y hy, drop_it l k x hx, mg_cons, hs, if_neg Bool.false_ne_true, hl, if_pos rfl] at h
  rw [← h, drop_it l k x hx]; simp
theorem mg_s3 {acc out l : List It} {j k : Nat} {x y : It} (h : acc ++ mg (out.drop j) (l.drop k) = mg out l) (hy : out[j]? = some y) (hx : l[k]? = some x) (hs : y.same x = false) (hl : y.less x = false) : (acc ++ [x]) ++ mg (out.drop j) (l.drop (k + 1)) = mg out l := by
  rw [drop_it out j y hy, drop_it l k x hx, mg_cons, hs, if_neg Bool.false_ne_true, hl, if_neg Bool.false_ne_true] at h
  rw [← h, drop_it out j y hy]; simp
theorem mg_s4 {acc out l : List It} {j k : Nat} {y : It} (h : acc ++ mg (out.drop j) (l.drop k) = mg out l) (hy : out[j]? = some y) (hk : l.drop k = []) : (acc ++ [y]) ++ mg (out.drop (j + 1)) (l.drop k) = mg out l := by
  rw [drop_it out j y hy, hk, mg_nil] at h
  rw [← h, hk, mg_nil]; simp
theorem mg_s5 {acc out l : List It} {j k : Nat} {x : It} (h : acc ++ mg (out.drop j) (l.drop k) = mg out l) (hx : l[k]? = some x) (hj : out.drop j = []) : (acc ++ [x]) ++ mg (out.drop j) (l.drop (k + 1)) = mg out l := by
  rw [drop_it l k x hx, hj] at h
  rw [← h, hj]
  show _ ++ l.drop (k + 1) = _ ++ (x :: l.drop (k + 1))
  simp
theorem ownI_other {w w' : World} {B R : Nat} {v : Value} {l : List It} (h : OwnI w B v l) (hg : w.grownBy w' (some R)) (hR : w.heap.size ≤ R ∨ v.ownBlock ≠ some R) : OwnI w' B v l := by
  refine World.ownsRow.kept h hg (.inr fun e => ?_)
  rcases hR with hR | hR
  · have := (World.ownsRow.lt h R e).2; omega
  · exact hR e
theorem ownI_ne {w : World} {B R : Nat} {v : Value} {l : List It} (h : OwnI w B v l) (hR : w.heap.size ≤ R) : v.ownBlock ≠ some R := fun e => by
  have := (World.ownsRow.lt h R e).2; omega
theorem mg_end {acc out l : List It} {j k : Nat} (h : acc ++ mg (out.drop j) (l.drop k) = mg out l) (hj : out.drop j = []) (hk : l.drop k = []) : acc = mg out l := by
  rw [hj, hk] at h
  simpa [mg] using h

/-- The rows laid together so far. -/
structure Ro (w wr : World) (ao : Option Addr) (no co : Nat) (m : List It) : Prop where
  is : Is wr ao no co m
  cap : co ≤ 9223372036854775807
  own : OwnI wr w.heap.size (.slice ao no co) m
  bel : Below w.heap.size w wr

set_option maxRecDepth 100000 in
set_option maxHeartbeats 4000000 in
theorem refrows_any (a : Option Addr) (n c : Nat) (zs : List Sl) (w : World) (h : Rws w a n c zs) (hn : n ≤ 9223372036854775807) (hs : sumL zs ≤ 3518437208880) :
    Calls Try.prog 11 #[.slice a n c] w (AnsO (rowsL zs) w) := by
  have hl := hide h.1
  have H0 := hide (fun W (hW : Below w.heap.size w W) => h.below hW (Nat.le_refl _))
  have HS := hide hs
  have R0 : Hid (Ro w w none 0 0 (rowsL (zs.take 0))) := hide ⟨is_nil w, by omega, ownI_nil _ _, Below.refl _ _⟩
  clear h hs
  go_enter Try.func11, Try.ntmps11
  go_wp2_with fail
  go_loopw [3, 4] (fun s3 s4 wr => ∃ (i : Nat) (ao : Option Addr) (no co : Nat), i ≤ n ∧ s4 = .int .i64 i ∧ s3 = .slice ao no co ∧ Hid ((rowsL (zs.take i)).length ≤ sumL (zs.take i)) ∧ Hid (Ro w wr ao no co (rowsL (zs.take i)))) (fun _ s4 _ => n - (intOf s4).toNat)
  case atStart => exact ⟨0, none, 0, 0, by omega, rfl, rfl, hide (by simp [rowsL]), R0⟩
  case round =>
    obtain ⟨i, ao, no, co, hi, rfl, rfl, hlo, hro⟩ := hrel
    by_cases hlt : i < n
    · obtain ⟨z, hz⟩ : ∃ z, zs[i]? = some z := ⟨_, List.getElem?_eq_getElem (by rw [hl.out]; exact hlt)⟩
      have hrw := H0.out _ hro.out.bel
      obtain ⟨b0, off0, ea, hcc⟩ := hrw.2.2.2 (by omega)
      have hcell := hcc i z hz
      have hIz := hrw.2.2.1 z (List.mem_of_getElem? hz)
      subst ea
      have hsum := sumL_take zs i z hz
      have hsle := sumL_le zs (i + 1)
      have hrt := rowsL_take zs i z hz
      obtain ⟨al, nl, cl, l⟩ := z
      simp only at hcell hIz hsum hrt
      obtain ⟨out, hout⟩ : ∃ out, rowsL (zs.take i) = out := ⟨_, rfl⟩
      rw [hout] at hlo hro hrt
      have HRT := hide hrt
      have hno : Hid (out.length = no) := hide hro.out.is.1
      have hnl : Hid (l.length = nl) := hide hIz.1.1
      have hbig : no + nl ≤ 3518437208880 := by have := hlo.out; have := hno.out; have := hnl.out; have := HS.out; omega
      have HSM := hide (show (mg out l).length ≤ sumL (zs.take (i + 1)) by have := mg_len out l; have := hlo.out; omega)
      obtain ⟨W1, hW1⟩ : ∃ W, wr = W := ⟨_, rfl⟩
      rw [hW1] at hcell hro hIz ⊢
      have HO := hide (fun W (hW : Below W1.heap.size W1 W) => hro.out.is.below hW (Nat.le_refl _))
      have HL := hide (fun W (hW : Below W1.heap.size W1 W) => hIz.1.below hW (Nat.le_refl _))
      have HOW := hide hro.out.is.2.2.1
      have HLW := hide hIz.1.2.2.1
      have HBW := hide hro.out.bel
      have hni : (i : Int) < (n : Int) := by omega
      have MM0 : Hid (Mg W1 W1 (.slice none 0 0) [] out l 0 0) := hide ⟨ownI_nil _ _, by simp, Below.refl _ _, by simp⟩
      clear hrw hcc hsum hsle hrt hz hout hIz hW1 hro
      go_wp2_with fail
      go_loopw [5, 7, 8] (fun s5 s7 s8 wr => ∃ (j k : Nat) (acc : List It), j ≤ no ∧ k ≤ nl ∧ s7 = .int .i64 j ∧ s8 = .int .i64 k ∧ Hid (Mg W1 wr s5 acc out l j k)) (fun _ s7 s8 _ => (no - (intOf s7).toNat) + (nl - (intOf s8).toNat))
      case atStart => exact ⟨0, 0, [], by omega, by omega, rfl, rfl, MM0⟩
      case round =>
        obtain ⟨j, k, acc, hj, hk, rfl, rfl, hmg⟩ := hrel
        have HLN := hide (show acc.length + 1 ≤ 3518437208883 by have := hmg.out.len; omega)
        have OQ := hide hmg.out.own
        have BQ := hide hmg.out.bel
        by_cases hjn : j < no
        · by_cases hkn : k < nl
          · obtain ⟨y, hy⟩ : ∃ y, out[j]? = some y := ⟨_, List.getElem?_eq_getElem (by rw [hno.out]; exact hjn)⟩
            obtain ⟨bo, offo, eo, hco⟩ := (HO.out _ hmg.out.bel).2.2.2 (by omega)
            subst eo
            have HV := hide (hco j y hy)
            have WY := hide (HOW.out y (List.mem_of_getElem? hy))
            obtain ⟨x, hx⟩ : ∃ x, l[k]? = some x := ⟨_, List.getElem?_eq_getElem (by rw [hnl.out]; exact hkn)⟩
            obtain ⟨bl, offl, el, hcl⟩ := (HL.out _ hmg.out.bel).2.2.2 (by omega)
            subst el
            have HU := hide (hcl k x hx)
            have WX := hide (HLW.out x (List.mem_of_getElem? hx))
            obtain ⟨o1, ho1⟩ : ∃ o, y.same x = o := ⟨_, rfl⟩
            obtain ⟨o2, ho2⟩ : ∃ o, y.less x = o := ⟨_, rfl⟩
            obtain ⟨o3, ho3⟩ : ∃ o, x.wins y = o := ⟨_, rfl⟩
            have E1 := hide (fun h1 : o1 = true => mg_s1 hmg.out.eq hy hx (ho1.trans h1))
            have E2 := hide (fun (h1 : o1 = false) (h2 : o2 = true) => mg_s2 hmg.out.eq hy hx (ho1.trans h1) (ho2.trans h2))
            have E3 := hide (fun (h1 : o1 = false) (h2 : o2 = false) => mg_s3 hmg.out.eq hy hx (ho1.trans h1) (ho2.trans h2))
            rw [ho3] at E1
            obtain ⟨yS, yK, yT, yV, yX⟩ := y
            unfold Vt at HV
            simp only at HV
            obtain ⟨xS, xK, xT, xV, xX⟩ := x
            unfold Vt at HU
            simp only at HU
            have HO1 := hide (show sameI yS yK yT xS xK xT = o1 from ho1)
            have HO2 := hide (show lessI yS yK yT xS xK xT = o2 from ho2)
            have HO3 := hide (show winsI xV xX yV yX = o3 from ho3)
            clear hy hx hco hcl ho1 ho2 ho3
            have d00 : ∀ p : Kp wr, p.W.cell? ⟨bo, offo + j * 5, none⟩ = some (.int .i64 yS) := fun p => (HV.out.keep p.h).1
            have d01 : ∀ p : Kp wr, p.W.cell? ⟨bo, offo + j * 5 + 1, none⟩ = some (.int .i64 yK) := fun p => (HV.out.keep p.h).2.1
            have d02 : ∀ p : Kp wr, p.W.cell? ⟨bo, offo + j * 5 + 2, none⟩ = some (.int .u64 yT) := fun p => (HV.out.keep p.h).2.2.1
            have d03 : ∀ p : Kp wr, p.W.cell? ⟨bo, offo + j * 5 + 3, none⟩ = some (.int .u64 yV) := fun p => (HV.out.keep p.h).2.2.2.1
            have d04 : ∀ p : Kp wr, p.W.cell? ⟨bo, offo + j * 5 + 4, none⟩ = some (.int .i64 yX) := fun p => (HV.out.keep p.h).2.2.2.2
            have d10 : ∀ p : Kp wr, p.W.cell? ⟨bl, offl + k * 5, none⟩ = some (.int .i64 xS) := fun p => (HU.out.keep p.h).1
            have d11 : ∀ p : Kp wr, p.W.cell? ⟨bl, offl + k * 5 + 1, none⟩ = some (.int .i64 xK) := fun p => (HU.out.keep p.h).2.1
            have d12 : ∀ p : Kp wr, p.W.cell? ⟨bl, offl + k * 5 + 2, none⟩ = some (.int .u64 xT) := fun p => (HU.out.keep p.h).2.2.1
            have d13 : ∀ p : Kp wr, p.W.cell? ⟨bl, offl + k * 5 + 3, none⟩ = some (.int .u64 xV) := fun p => (HU.out.keep p.h).2.2.2.1
            have d14 : ∀ p : Kp wr, p.W.cell? ⟨bl, offl + k * 5 + 4, none⟩ = some (.int .i64 xX) := fun p => (HU.out.keep p.h).2.2.2.2
            have c0 : Hid (∀ p : Kp wr, Calls Try.prog 27 #[.agg #[.int .i64 yS, .int .i64 yK, .int .u64 yT, .int .u64 yV, .int .i64 yX], .agg #[.int .i64 xS, .int .i64 xK, .int .u64 xT, .int .u64 xV, .int .i64 xX]] p.W fun e w'' => e = .returned (.bool o1) ∧ ∃ q : Kp wr, w'' = q.W) := hide fun p => kp_call (by have := refsame_any yS yK yT yV yX xS xK xT xV xX p.W; rw [HO1.out] at this; exact this)
            have hne : Nonempty (Kp wr) := ⟨⟨_, Below.refl _ _⟩⟩
            have hj1 : (j : Int) < (no : Int) := by omega
            have hk1 : (k : Int) < (nl : Int) := by omega
            have hd1 : decide ((j : Int) < (no : Int)) = true := by simp; omega
            have hd2 : decide ((k : Int) < (nl : Int)) = true := by simp; omega
            have hd3 : ((k : Int) == (nl : Int)) = false := by simp; omega
            go_wp2_with fail
            refine wp_region_kept (by kernel_rfl) (by kernel_rfl) ?_
            repeat (first
              | go_big_quiet_step (first | (go_at_call 27; exact c0.out _))
              | fail)
            refine wpQuiet_nil ?_
            intro w4 hw'
            have Bw4 : Hid (Below wr.heap.size wr w4) := by
              obtain ⟨⟨w3', hb3⟩, hw''⟩ := hw'
              rw [hw'']; exact hide hb3
            clear hw'
            clear hne c0 d00 d01 d02 d03 d04 d10 d11 d12 d13 d14
            have HV4 := hide (HV.out.keep Bw4.out)
            have HU4 := hide (HU.out.keep Bw4.out)
            cases o1 with
            | true =>
              have qv := HV4.out
              unfold Vi at qv
              obtain ⟨v0, v1, v2, v3, v4⟩ := qv
              have X5 := hide (vx_new w4 yS yK yT yV yX)
              have A5 := hide ((Below.refl _ w4).alloc (Nat.le_refl _) (Obj.cells #[Value.int IntKind.i64 yS, Value.int IntKind.i64 yK, Value.int IntKind.u64 yT, Value.int IntKind.u64 yV, Value.int IntKind.i64 yX] 36))
              obtain ⟨R, hR⟩ : ∃ R, R = w4.heap.size := ⟨_, rfl⟩
              obtain ⟨w5, hw5⟩ : ∃ w5, w5 = w4.alloc (Obj.cells #[Value.int IntKind.i64 yS, Value.int IntKind.i64 yK, Value.int IntKind.u64 yT, Value.int IntKind.u64 yV, Value.int IntKind.i64 yX] 36) := ⟨_, rfl⟩
              rw [← hw5] at A5 X5
              rw [← hR] at X5
              have HU5 := hide (HU4.out.keep A5.out)
              have HX5 := hide X5.out.1
              have OW4 := hide (ownI_keep OQ.out Bw4.out)
              have O5 := hide (ownI_keep OW4.out A5.out)
              have B5 := hide (bmore (bmore BQ.out Bw4.out) A5.out)
              have NR := hide (ownI_ne OW4.out (Nat.le_of_eq hR.symm))
              have HR5 := hide (show W1.heap.size ≤ R by rw [hR]; exact (bmore BQ.out Bw4.out).size)
              have d00 : ∀ p : Kp w5, p.W.cell? ⟨R, 0, none⟩ = some (.int .i64 yS) := fun p => (HX5.out.keep p.h).1
              have d01 : ∀ p : Kp w5, p.W.cell? ⟨R, 1, none⟩ = some (.int .i64 yK) := fun p => (HX5.out.keep p.h).2.1
              have d02 : ∀ p : Kp w5, p.W.cell? ⟨R, 2, none⟩ = some (.int .u64 yT) := fun p => (HX5.out.keep p.h).2.2.1
              have d03 : ∀ p : Kp w5, p.W.cell? ⟨R, 3, none⟩ = some (.int .u64 yV) := fun p => (HX5.out.keep p.h).2.2.2.1
              have d04 : ∀ p : Kp w5, p.W.cell? ⟨R, 4, none⟩ = some (.int .i64 yX) := fun p => (HX5.out.keep p.h).2.2.2.2
              have d10 : ∀ p : Kp w5, p.W.cell? ⟨bl, offl + k * 5, none⟩ = some (.int .i64 xS) := fun p => (HU5.out.keep p.h).1
              have d11 : ∀ p : Kp w5, p.W.cell? ⟨bl, offl + k * 5 + 1, none⟩ = some (.int .i64 xK) := fun p => (HU5.out.keep p.h).2.1
              have d12 : ∀ p : Kp w5, p.W.cell? ⟨bl, offl + k * 5 + 2, none⟩ = some (.int .u64 xT) := fun p => (HU5.out.keep p.h).2.2.1
              have d13 : ∀ p : Kp w5, p.W.cell? ⟨bl, offl + k * 5 + 3, none⟩ = some (.int .u64 xV) := fun p => (HU5.out.keep p.h).2.2.2.1
              have d14 : ∀ p : Kp w5, p.W.cell? ⟨bl, offl + k * 5 + 4, none⟩ = some (.int .i64 xX) := fun p => (HU5.out.keep p.h).2.2.2.2
              have c0 : Hid (∀ p : Kp w5, Calls Try.prog 28 #[.agg #[.int .i64 xS, .int .i64 xK, .int .u64 xT, .int .u64 xV, .int .i64 xX], .agg #[.int .i64 yS, .int .i64 yK, .int .u64 yT, .int .u64 yV, .int .i64 yX]] p.W fun e w'' => e = .returned (.bool o3) ∧ ∃ q : Kp w5, w'' = q.W) := hide fun p => kp_call (by have := refwins_any xS xK xT xV xX yS yK yT yV yX p.W; rw [HO3.out] at this; exact this)
              have hne : Nonempty (Kp w5) := ⟨⟨_, Below.refl _ _⟩⟩
              go_wp2_with fail
              rw [← hw5, ← hR]
              clear hw5 hR v0 v1 v2 v3 v4
              refine wp_region_kept (by kernel_rfl) (by kernel_rfl) ?_
              repeat (first
                | go_big_quiet_step (first | (go_at_call 28; exact c0.out _))
                | fail)
              refine wpQuiet_nil ?_
              intro w6 hw'
              have Bw6 : Hid (Below w5.heap.size w5 w6) := by
                obtain ⟨⟨w3', hb3⟩, hw''⟩ := hw'
                rw [hw'']; exact hide hb3
              clear hw'
              clear hne c0 d00 d01 d02 d03 d04 d10 d11 d12 d13 d14
              have X6 := hide (X5.out.keep Bw6.out)
              have HU6 := hide (HU5.out.keep Bw6.out)
              have O6 := hide (ownI_keep O5.out Bw6.out)
              have B6 := hide (bmore B5.out Bw6.out)
              cases o3 with
              | true =>
                have qu := HU6.out
                unfold Vi at qu
                obtain ⟨u0, u1, u2, u3, u4⟩ := qu
                have gx := X6.out
                unfold Vx Vi Vf at gx
                simp only [Nat.zero_add] at gx
                obtain ⟨⟨y0, y1, y2, y3, y4⟩, z0, z1, z2, z3, z4⟩ := gx
                have O7 : Hid (OwnI (putI w6 R xS xK xT xV xX) W1.heap.size _ acc) := hide (ownI_other O6.out (gb_putI w6 R xS xK xT xV xX) (.inr NR.out))
                have B7 : Hid (Below W1.heap.size W1 (putI w6 R xS xK xT xV xX)) := hide (B6.out.grown (gb_putI w6 R xS xK xT xV xX) B6.out.size (fun k hk => by cases hk; exact HR5.out))
                have E9 := hide (E1.out (by first | rfl | trivial))
                rw [if_pos rfl] at E9
                have AZ := (Below.refl _ (putI w6 R xS xK xT xV xX)).alloc (Nat.le_refl _) (Obj.cells #[Value.int IntKind.i64 xS, Value.int IntKind.i64 xK, Value.int IntKind.u64 xT, Value.int IntKind.u64 xV, Value.int IntKind.i64 xX] 36)
                have OA := hide (ownI_keep O7.out AZ)
                have BA := hide (B7.out.alloc B7.out.size (Obj.cells #[Value.int IntKind.i64 xS, Value.int IntKind.i64 xK, Value.int IntKind.u64 xT, Value.int IntKind.u64 xV, Value.int IntKind.i64 xX] 36))
                have IA := hide (is_one (putI w6 R xS xK xT xV xX) xS xK xT xV xX WX.out)
                rw [show (putI w6 R xS xK xT xV xX).heap.size = w6.heap.size from by simp [putI, World.setCell]] at IA
                unfold putI at OA BA IA
                clear AZ O7 B7
                go_wp2_with (at_builtin; refine wpList_append_items rfl _ _ rfl W1.heap.size _ acc rfl OA.out _ 1 1 [⟨xS, xK, xT, xV, xX⟩] rfl IA.out HLN.out BA.out.size ?_; intro v9 w9 o9 g9 k9)
                have M9 : Hid (Mg W1 w9 v9 (acc ++ [⟨xS, xK, xT, xV, xX⟩]) out l (j + 1) (k + 1)) := hide ⟨o9, E9.out, BA.out.grown g9 BA.out.size k9, by rw [List.length_append, List.length_singleton]; have := hmg.out.len; omega⟩
                clear o9 g9 k9 OA BA IA
                go_roundw
                case rel => first | exact ⟨j + 1, k + 1, _, by omega, by omega, by go_num, by go_num, M9⟩ | ((repeat apply Exists.intro); exact ⟨⟨j + 1, k + 1, _, by omega, by omega, by go_num, by go_num, M9⟩, rfl⟩)
                case measure => simp [intOf]; omega
              | false =>
                have gx := X6.out.1
                unfold Vi at gx
                simp only [Nat.zero_add] at gx
                obtain ⟨y0, y1, y2, y3, y4⟩ := gx
                have OZ := hide O6.out
                have BZ := hide B6.out
                have E9 := hide (E1.out (by first | rfl | trivial))
                rw [if_neg Bool.false_ne_true] at E9
                have AZ := (Below.refl _ w6).alloc (Nat.le_refl _) (Obj.cells #[Value.int IntKind.i64 yS, Value.int IntKind.i64 yK, Value.int IntKind.u64 yT, Value.int IntKind.u64 yV, Value.int IntKind.i64 yX] 36)
                have OA := hide (ownI_keep OZ.out AZ)
                have BA := hide (BZ.out.alloc BZ.out.size (Obj.cells #[Value.int IntKind.i64 yS, Value.int IntKind.i64 yK, Value.int IntKind.u64 yT, Value.int IntKind.u64 yV, Value.int IntKind.i64 yX] 36))
                have IA := hide (is_one w6 yS yK yT yV yX WY.out)
                clear AZ
                go_wp2_with (at_builtin; refine wpList_append_items rfl _ _ rfl W1.heap.size _ acc rfl OA.out _ 1 1 [⟨yS, yK, yT, yV, yX⟩] rfl IA.out HLN.out BA.out.size ?_; intro v9 w9 o9 g9 k9)
                have M9 : Hid (Mg W1 w9 v9 (acc ++ [⟨yS, yK, yT, yV, yX⟩]) out l (j + 1) (k + 1)) := hide ⟨o9, E9.out, BA.out.grown g9 BA.out.size k9, by rw [List.length_append, List.length_singleton]; have := hmg.out.len; omega⟩
                clear o9 g9 k9 OA BA IA
                go_roundw
                case rel => first | exact ⟨(j + 1), (k + 1), _, by omega, by omega, by go_num, by go_num, M9⟩ | ((repeat apply Exists.intro); exact ⟨⟨(j + 1), (k + 1), _, by omega, by omega, by go_num, by go_num, M9⟩, rfl⟩)
                case measure => simp [intOf]; omega
            | false =>
              have d00 : ∀ p : Kp w4, p.W.cell? ⟨bo, offo + j * 5, none⟩ = some (.int .i64 yS) := fun p => (HV4.out.keep p.h).1
              have d01 : ∀ p : Kp w4, p.W.cell? ⟨bo, offo + j * 5 + 1, none⟩ = some (.int .i64 yK) := fun p => (HV4.out.keep p.h).2.1
              have d02 : ∀ p : Kp w4, p.W.cell? ⟨bo, offo + j * 5 + 2, none⟩ = some (.int .u64 yT) := fun p => (HV4.out.keep p.h).2.2.1
              have d03 : ∀ p : Kp w4, p.W.cell? ⟨bo, offo + j * 5 + 3, none⟩ = some (.int .u64 yV) := fun p => (HV4.out.keep p.h).2.2.2.1
              have d04 : ∀ p : Kp w4, p.W.cell? ⟨bo, offo + j * 5 + 4, none⟩ = some (.int .i64 yX) := fun p => (HV4.out.keep p.h).2.2.2.2
              have d10 : ∀ p : Kp w4, p.W.cell? ⟨bl, offl + k * 5, none⟩ = some (.int .i64 xS) := fun p => (HU4.out.keep p.h).1
              have d11 : ∀ p : Kp w4, p.W.cell? ⟨bl, offl + k * 5 + 1, none⟩ = some (.int .i64 xK) := fun p => (HU4.out.keep p.h).2.1
              have d12 : ∀ p : Kp w4, p.W.cell? ⟨bl, offl + k * 5 + 2, none⟩ = some (.int .u64 xT) := fun p => (HU4.out.keep p.h).2.2.1
              have d13 : ∀ p : Kp w4, p.W.cell? ⟨bl, offl + k * 5 + 3, none⟩ = some (.int .u64 xV) := fun p => (HU4.out.keep p.h).2.2.2.1
              have d14 : ∀ p : Kp w4, p.W.cell? ⟨bl, offl + k * 5 + 4, none⟩ = some (.int .i64 xX) := fun p => (HU4.out.keep p.h).2.2.2.2
              have c0 : Hid (∀ p : Kp w4, Calls Try.prog 22 #[.agg #[.int .i64 yS, .int .i64 yK, .int .u64 yT, .int .u64 yV, .int .i64 yX], .agg #[.int .i64 xS, .int .i64 xK, .int .u64 xT, .int .u64 xV, .int .i64 xX]] p.W fun e w'' => e = .returned (.bool o2) ∧ ∃ q : Kp w4, w'' = q.W) := hide fun p => kp_call (by have := refless_any yS yK yT yV yX xS xK xT xV xX p.W; rw [HO2.out] at this; exact this)
              have hne : Nonempty (Kp w4) := ⟨⟨_, Below.refl _ _⟩⟩
              go_wp2_with fail
              refine wp_region_kept (by kernel_rfl) (by kernel_rfl) ?_
              repeat (first
                | go_big_quiet_step (first | (go_at_call 22; exact c0.out _))
                | fail)
              refine wpQuiet_nil ?_
              intro w5 hw'
              have Bw5 : Hid (Below w4.heap.size w4 w5) := by
                obtain ⟨⟨w3', hb3⟩, hw''⟩ := hw'
                rw [hw'']; exact hide hb3
              clear hw'
              clear hne c0 d00 d01 d02 d03 d04 d10 d11 d12 d13 d14
              have B45 := hide (bmore Bw4.out Bw5.out)
              have OZ := hide (ownI_keep OQ.out B45.out)
              have BZ := hide (bmore BQ.out B45.out)
              cases o2 with
              | true =>
                have qv := HV.out.keep B45.out
                unfold Vi at qv
                obtain ⟨v0, v1, v2, v3, v4⟩ := qv
                have AZ := (Below.refl _ w5).alloc (Nat.le_refl _) (Obj.cells #[Value.int IntKind.i64 yS, Value.int IntKind.i64 yK, Value.int IntKind.u64 yT, Value.int IntKind.u64 yV, Value.int IntKind.i64 yX] 36)
                have OA := hide (ownI_keep OZ.out AZ)
                have BA := hide (BZ.out.alloc BZ.out.size (Obj.cells #[Value.int IntKind.i64 yS, Value.int IntKind.i64 yK, Value.int IntKind.u64 yT, Value.int IntKind.u64 yV, Value.int IntKind.i64 yX] 36))
                have IA := hide (is_one w5 yS yK yT yV yX WY.out)
                clear AZ
                go_wp2_with (at_builtin; refine wpList_append_items rfl _ _ rfl W1.heap.size _ acc rfl OA.out _ 1 1 [⟨yS, yK, yT, yV, yX⟩] rfl IA.out HLN.out BA.out.size ?_; intro v9 w9 o9 g9 k9)
                have M9 : Hid (Mg W1 w9 v9 (acc ++ [⟨yS, yK, yT, yV, yX⟩]) out l (j + 1) k) := hide ⟨o9, (E2.out (by first | rfl | trivial) (by first | rfl | trivial)), BA.out.grown g9 BA.out.size k9, by rw [List.length_append, List.length_singleton]; have := hmg.out.len; omega⟩
                clear o9 g9 k9 OA BA IA
                go_roundw
                case rel => first | exact ⟨(j + 1), k, _, by omega, by omega, by go_num, by go_num, M9⟩ | ((repeat apply Exists.intro); exact ⟨⟨(j + 1), k, _, by omega, by omega, by go_num, by go_num, M9⟩, rfl⟩)
                case measure => simp [intOf]; omega
              | false =>
                have qv := HU.out.keep B45.out
                unfold Vi at qv
                obtain ⟨v0, v1, v2, v3, v4⟩ := qv
                have AZ := (Below.refl _ w5).alloc (Nat.le_refl _) (Obj.cells #[Value.int IntKind.i64 xS, Value.int IntKind.i64 xK, Value.int IntKind.u64 xT, Value.int IntKind.u64 xV, Value.int IntKind.i64 xX] 36)
                have OA := hide (ownI_keep OZ.out AZ)
                have BA := hide (BZ.out.alloc BZ.out.size (Obj.cells #[Value.int IntKind.i64 xS, Value.int IntKind.i64 xK, Value.int IntKind.u64 xT, Value.int IntKind.u64 xV, Value.int IntKind.i64 xX] 36))
                have IA := hide (is_one w5 xS xK xT xV xX WX.out)
                clear AZ
                go_wp2_with (at_builtin; refine wpList_append_items rfl _ _ rfl W1.heap.size _ acc rfl OA.out _ 1 1 [⟨xS, xK, xT, xV, xX⟩] rfl IA.out HLN.out BA.out.size ?_; intro v9 w9 o9 g9 k9)
                have M9 : Hid (Mg W1 w9 v9 (acc ++ [⟨xS, xK, xT, xV, xX⟩]) out l j (k + 1)) := hide ⟨o9, (E3.out (by first | rfl | trivial) (by first | rfl | trivial)), BA.out.grown g9 BA.out.size k9, by rw [List.length_append, List.length_singleton]; have := hmg.out.len; omega⟩
                clear o9 g9 k9 OA BA IA
                go_roundw
                case rel => first | exact ⟨j, (k + 1), _, by omega, by omega, by go_num, by go_num, M9⟩ | ((repeat apply Exists.intro); exact ⟨⟨j, (k + 1), _, by omega, by omega, by go_num, by go_num, M9⟩, rfl⟩)
                case measure => simp [intOf]; omega
          · obtain ⟨y, hy⟩ : ∃ y, out[j]? = some y := ⟨_, List.getElem?_eq_getElem (by rw [hno.out]; exact hjn)⟩
            obtain ⟨bo, offo, eo, hco⟩ := (HO.out _ hmg.out.bel).2.2.2 (by omega)
            subst eo
            have HV := hide (hco j y hy)
            have WY := hide (HOW.out y (List.mem_of_getElem? hy))
            have E4 := hide (mg_s4 hmg.out.eq hy (List.drop_eq_nil_of_le (by rw [hnl.out]; omega)))
            obtain ⟨yS, yK, yT, yV, yX⟩ := y
            unfold Vt at HV
            simp only at HV
            clear hy hco
            have hj1 : (j : Int) < (no : Int) := by omega
            have hd1 : decide ((j : Int) < (no : Int)) = true := by simp; omega
            have hk1 : ¬ (k : Int) < (nl : Int) := by omega
            have hd2 : decide ((k : Int) < (nl : Int)) = false := by simp; omega
            have hd3 : ((k : Int) == (nl : Int)) = true := by simp; omega
            have hne : Nonempty (Kp wr) := ⟨⟨_, Below.refl _ _⟩⟩
            go_wp2_with fail
            refine wp_region_kept (by kernel_rfl) (by kernel_rfl) ?_
            repeat (first
              | go_big_quiet_step (first | fail)
              | fail)
            refine wpQuiet_nil ?_
            intro w4 hw'
            have Bw4 : Hid (Below wr.heap.size wr w4) := by
              obtain ⟨⟨w3', hb3⟩, hw''⟩ := hw'
              rw [hw'']; exact hide hb3
            clear hw'
            clear hne
            have hne : Nonempty (Kp w4) := ⟨⟨_, Below.refl _ _⟩⟩
            go_wp2_with fail
            refine wp_region_kept (by kernel_rfl) (by kernel_rfl) ?_
            repeat (first
              | go_big_quiet_step (first | fail)
              | fail)
            refine wpQuiet_nil ?_
            intro w5 hw'
            have Bw5 : Hid (Below w4.heap.size w4 w5) := by
              obtain ⟨⟨w3', hb3⟩, hw''⟩ := hw'
              rw [hw'']; exact hide hb3
            clear hw'
            clear hne
            have B45 := hide (bmore Bw4.out Bw5.out)
            have OZ := hide (ownI_keep OQ.out B45.out)
            have BZ := hide (bmore BQ.out B45.out)
            have qv := HV.out.keep B45.out
            unfold Vi at qv
            obtain ⟨v0, v1, v2, v3, v4⟩ := qv
            have AZ := (Below.refl _ w5).alloc (Nat.le_refl _) (Obj.cells #[Value.int IntKind.i64 yS, Value.int IntKind.i64 yK, Value.int IntKind.u64 yT, Value.int IntKind.u64 yV, Value.int IntKind.i64 yX] 36)
            have OA := hide (ownI_keep OZ.out AZ)
            have BA := hide (BZ.out.alloc BZ.out.size (Obj.cells #[Value.int IntKind.i64 yS, Value.int IntKind.i64 yK, Value.int IntKind.u64 yT, Value.int IntKind.u64 yV, Value.int IntKind.i64 yX] 36))
            have IA := hide (is_one w5 yS yK yT yV yX WY.out)
            clear AZ
            go_wp2_with (at_builtin; refine wpList_append_items rfl _ _ rfl W1.heap.size _ acc rfl OA.out _ 1 1 [⟨yS, yK, yT, yV, yX⟩] rfl IA.out HLN.out BA.out.size ?_; intro v9 w9 o9 g9 k9)
            have M9 : Hid (Mg W1 w9 v9 (acc ++ [⟨yS, yK, yT, yV, yX⟩]) out l (j + 1) k) := hide ⟨o9, E4.out, BA.out.grown g9 BA.out.size k9, by rw [List.length_append, List.length_singleton]; have := hmg.out.len; omega⟩
            clear o9 g9 k9 OA BA IA
            go_roundw
            case rel => first | exact ⟨(j + 1), k, _, by omega, by omega, by go_num, by go_num, M9⟩ | ((repeat apply Exists.intro); exact ⟨⟨(j + 1), k, _, by omega, by omega, by go_num, by go_num, M9⟩, rfl⟩)
            case measure => simp [intOf]; omega
        · by_cases hkn : k < nl
          · obtain ⟨x, hx⟩ : ∃ x, l[k]? = some x := ⟨_, List.getElem?_eq_getElem (by rw [hnl.out]; exact hkn)⟩
            obtain ⟨bl, offl, el, hcl⟩ := (HL.out _ hmg.out.bel).2.2.2 (by omega)
            subst el
            have HU := hide (hcl k x hx)
            have WX := hide (HLW.out x (List.mem_of_getElem? hx))
            have E4 := hide (mg_s5 hmg.out.eq hx (List.drop_eq_nil_of_le (by rw [hno.out]; omega)))
            obtain ⟨xS, xK, xT, xV, xX⟩ := x
            unfold Vt at HU
            simp only at HU
            clear hx hcl
            have hj1 : ¬ (j : Int) < (no : Int) := by omega
            have hd1 : decide ((j : Int) < (no : Int)) = false := by simp; omega
            have hk1 : (k : Int) < (nl : Int) := by omega
            have hd2 : decide ((k : Int) < (nl : Int)) = true := by simp; omega
            have hd3 : ((k : Int) == (nl : Int)) = false := by simp; omega
            have hne : Nonempty (Kp wr) := ⟨⟨_, Below.refl _ _⟩⟩
            go_wp2_with fail
            refine wp_region_kept (by kernel_rfl) (by kernel_rfl) ?_
            repeat (first
              | go_big_quiet_step (first | fail)
              | fail)
            refine wpQuiet_nil ?_
            intro w4 hw'
            have Bw4 : Hid (Below wr.heap.size wr w4) := by
              obtain ⟨⟨w3', hb3⟩, hw''⟩ := hw'
              rw [hw'']; exact hide hb3
            clear hw'
            clear hne
            have hne : Nonempty (Kp w4) := ⟨⟨_, Below.refl _ _⟩⟩
            go_wp2_with fail
            refine wp_region_kept (by kernel_rfl) (by kernel_rfl) ?_
            repeat (first
              | go_big_quiet_step (first | fail)
              | fail)
            refine wpQuiet_nil ?_
            intro w5 hw'
            have Bw5 : Hid (Below w4.heap.size w4 w5) := by
              obtain ⟨⟨w3', hb3⟩, hw''⟩ := hw'
              rw [hw'']; exact hide hb3
            clear hw'
            clear hne
            have B45 := hide (bmore Bw4.out Bw5.out)
            have OZ := hide (ownI_keep OQ.out B45.out)
            have BZ := hide (bmore BQ.out B45.out)
            have qv := HU.out.keep B45.out
            unfold Vi at qv
            obtain ⟨v0, v1, v2, v3, v4⟩ := qv
            have AZ := (Below.refl _ w5).alloc (Nat.le_refl _) (Obj.cells #[Value.int IntKind.i64 xS, Value.int IntKind.i64 xK, Value.int IntKind.u64 xT, Value.int IntKind.u64 xV, Value.int IntKind.i64 xX] 36)
            have OA := hide (ownI_keep OZ.out AZ)
            have BA := hide (BZ.out.alloc BZ.out.size (Obj.cells #[Value.int IntKind.i64 xS, Value.int IntKind.i64 xK, Value.int IntKind.u64 xT, Value.int IntKind.u64 xV, Value.int IntKind.i64 xX] 36))
            have IA := hide (is_one w5 xS xK xT xV xX WX.out)
            clear AZ
            go_wp2_with (at_builtin; refine wpList_append_items rfl _ _ rfl W1.heap.size _ acc rfl OA.out _ 1 1 [⟨xS, xK, xT, xV, xX⟩] rfl IA.out HLN.out BA.out.size ?_; intro v9 w9 o9 g9 k9)
            have M9 : Hid (Mg W1 w9 v9 (acc ++ [⟨xS, xK, xT, xV, xX⟩]) out l j (k + 1)) := hide ⟨o9, E4.out, BA.out.grown g9 BA.out.size k9, by rw [List.length_append, List.length_singleton]; have := hmg.out.len; omega⟩
            clear o9 g9 k9 OA BA IA
            go_roundw
            case rel => first | exact ⟨j, (k + 1), _, by omega, by omega, by go_num, by go_num, M9⟩ | ((repeat apply Exists.intro); exact ⟨⟨j, (k + 1), _, by omega, by omega, by go_num, by go_num, M9⟩, rfl⟩)
            case measure => simp [intOf]; omega
          · have hj1 : ¬ (j : Int) < (no : Int) := by omega
            have hd1 : decide ((j : Int) < (no : Int)) = false := by simp; omega
            have hk1 : ¬ (k : Int) < (nl : Int) := by omega
            have hd2 : decide ((k : Int) < (nl : Int)) = false := by simp; omega
            have hend := mg_end hmg.out.eq (List.drop_eq_nil_of_le (by rw [hno.out]; omega)) (List.drop_eq_nil_of_le (by rw [hnl.out]; omega))
            have BE := hide (bmore HBW.out BQ.out)
            have hW1s := HBW.out.size
            obtain ⟨ae, ce, ev, hcap, his, _⟩ := ownI_is hmg.out.own (fun x hx => by rw [hend] at hx; rcases mg_mem out l x hx with e | e; exact HOW.out x e; exact HLW.out x e)
            have OE := hide (ownI_base hmg.out.own hW1s)
            rw [ev] at OE
            subst ev
            have RO9 : Hid (Ro w wr ae acc.length ce (rowsL (zs.take (i + 1)))) := hide ⟨by rw [HRT.out, ← hend]; exact his, hcap, by rw [HRT.out, ← hend]; exact OE.out, BE.out⟩
            have HL9 := hide (show (rowsL (zs.take (i + 1))).length ≤ sumL (zs.take (i + 1)) by rw [HRT.out]; exact HSM.out)
            obtain ⟨ne, hne⟩ : ∃ ne, acc.length = ne := ⟨_, rfl⟩
            rw [hne] at RO9 ⊢
            clear hend his hcap OE hmg HLN OQ hne
            go_wp2
            go_roundw
            case rel => first | exact ⟨i + 1, ae, ne, ce, by omega, by go_num, rfl, HL9, RO9⟩ | ((repeat apply Exists.intro); exact ⟨⟨i + 1, ae, ne, ce, by omega, by go_num, rfl, HL9, RO9⟩, rfl⟩)
            case measure => simp [intOf]; omega
    · obtain rfl : i = n := by omega
      have he : zs.take i = zs := List.take_of_length_le (by rw [hl.out]; exact Nat.le_refl _)
      rw [he] at hro
      have hnl : Hid ((rowsL zs).length = no) := hide hro.out.is.1
      clear he hlo
      go_wp2
      go_ret
      refine ⟨ao, co, ?_⟩
      rw [hnl.out]
      exact ⟨rfl, hro.out.is, hro.out.cap, hro.out.bel, hro.out.own⟩

end Go.Proofs.Ytkkcchklefcljaa.Clep
