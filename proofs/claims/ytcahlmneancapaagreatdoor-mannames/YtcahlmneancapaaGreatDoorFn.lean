/- Numbers as digits, and back; names of any kind as functions. Numbers up to 2^30. -/
import Derived.Test.YtcahlmneancapaaGreatDoorFv11
import Derived.Lib.AtoiTie
import Derived.Lib.ItoaMem
import Derived.Shelf.Strconv.ErrVarAll
import Derived.Lib.AppendIntMem
import Derived.LaidMore
import Derived.Stop.LaidErr
import Derived.Lib.LaidTab
import Derived.LaidLaws
import Derived.Test.YtcahlmneancapaaGreatDoorFv28
import Derived.BigRegion
namespace Go.Proofs.YtcahlmneancapaaGreatDoor.Clep
open Go.RowKit Go.Maps
set_option linter.unusedVariables false
set_option maxRecDepth 10000

theorem dec_from_app : ∀ (a : List UInt8) (acc n : Nat) (b : UInt8) (d : Nat), Lib.decFrom acc a = some n → Lib.digitVal b = some d → Lib.decFrom acc (a ++ [b]) = some (n * 10 + d)
  | [], acc, n, b, d, h, hb => by
    simp only [Lib.decFrom, Option.some.injEq] at h
    subst h
    simp [Lib.decFrom, hb]
  | x :: a, acc, n, b, d, h, hb => by
    simp only [Lib.decFrom] at h
    rw [List.cons_append]
    simp only [Lib.decFrom]
    cases hx : Lib.digitVal x with
    | none => rw [hx] at h; cases h
    | some e =>
      rw [hx] at h
      exact dec_from_app a _ n b d h hb
theorem digit_val : ∀ d < 10, Lib.digitVal (UInt8.ofNat (48 + d)) = some d := by decide
theorem dec_from_digits (n : Nat) : Lib.decFrom 0 (Lib.decDigits n) = some n := by
  induction n using Nat.strongRecOn with
  | _ n ih =>
    by_cases h : n < 10
    · rw [Lib.decDigits, dif_pos h]
      unfold Lib.decFrom
      rw [digit_val n h]
      simp [Lib.decFrom]
    · rw [Lib.decDigits, dif_neg h, dec_from_app _ _ _ _ _ (ih (n / 10) (by omega)) (digit_val (n % 10) (by omega))]
      congr 1
      omega
theorem ndig_le : ∀ (k u : Nat), u < 10 ^ (k + 1) → Lib.nDigits u ≤ k + 1
  | 0, u, h => by rw [Lib.nDigits_small (by simpa using h)]; exact Nat.le_refl _
  | k + 1, u, h => by
    by_cases h1 : u < 10
    · rw [Lib.nDigits_small h1]; omega
    · rw [Lib.nDigits_big h1]
      have := ndig_le k (u / 10) (by rw [Nat.pow_succ] at h; omega)
      omega
theorem digits_len10 {n : Nat} (h : n ≤ 1073741824) : 1 ≤ (Lib.decDigits n).length ∧ (Lib.decDigits n).length ≤ 10 := by
  rw [Lib.decDigits_length]
  exact ⟨Lib.nDigits_pos n, ndig_le 9 n (by omega)⟩
theorem atoi_digits {n : Nat} (h : n ≤ 1073741824) : Lib.atoiAll (Lib.decDigits n) = .ok (n : Int) := by
  have hl := digits_len10 h
  rw [Lib.atoiAll_short _ (by omega)]
  have hd := dec_from_digits n
  cases hx : Lib.decDigits n with
  | nil => rw [hx] at hl; simp at hl
  | cons b r =>
    rw [hx] at hd
    obtain ⟨d, hdv⟩ := Lib.digit_of_decFrom (b :: r) 0 n hd 0 b rfl
    unfold Lib.digitVal at hdv
    split at hdv
    · rename_i hb
      have e45 : (b == 45) = false := by
        rw [beq_eq_false_iff_ne]
        intro e
        subst e
        exact absurd hb.1 (by decide)
      have e43 : (b == 43) = false := by
        rw [beq_eq_false_iff_ne]
        intro e
        subst e
        exact absurd hb.1 (by decide)
      unfold Lib.atoi
      simp only [e45, e43]
      unfold Lib.decNat
      rw [hd]
      rfl
    · cases hdv
def nameV (k : ByteArray) (n : Int) : ByteArray := if isK k = true ∧ 1 ≤ n ∧ n ≤ 1073741824 then k ++ kPt ++ ⟨(Lib.decDigits n.toNat).toArray⟩ else ⟨#[]⟩
theorem nameV_good {k : ByteArray} {n : Nat} (h : isK k = true) (h1 : 1 ≤ n) (h2 : n ≤ 1073741824) : nameV k (n : Int) = k ++ kPt ++ ⟨(Lib.decDigits n).toArray⟩ := by
  unfold nameV
  rw [if_pos ⟨h, by omega, by omega⟩, Int.toNat_natCast]
theorem nameV_bad {k : ByteArray} {n : Int} (h : ¬ (isK k = true ∧ 1 ≤ n ∧ n ≤ 1073741824)) : nameV k n = ⟨#[]⟩ := by
  unfold nameV
  rw [if_neg h]
theorem bytes_append (a b : ByteArray) : (a ++ b).data.toList = a.data.toList ++ b.data.toList := by
  rw [ByteArray.data_append, Array.toList_append]
theorem nameV_size (k : ByteArray) (n : Int) : (nameV k n).size ≤ 14 := by
  unfold nameV
  split
  · rename_i h
    have h1 := isK_size h.1
    have h2 := digits_len10 (n := n.toNat) (by omega)
    have h3 : kPt.size = 1 := rfl
    have h4 : (ByteArray.mk (Lib.decDigits n.toNat).toArray).size = (Lib.decDigits n.toNat).length := by simp [ByteArray.size]
    rw [ByteArray.size_append, ByteArray.size_append]
    omega
  · exact Nat.zero_le _
/-- What stands behind a beginning. -/
theorem cut_app (a b : ByteArray) : Lib.hasPrefix (a ++ b).data.toList a.data.toList = true ∧ Lib.trimPrefix (a ++ b).data.toList a.data.toList = b.data.toList := by
  rw [bytes_append]
  have h : Lib.hasPrefix (a.data.toList ++ b.data.toList) a.data.toList = true := by
    unfold Lib.hasPrefix
    rw [List.isPrefixOf_iff_prefix]
    exact List.prefix_append _ _
  refine ⟨h, ?_⟩
  unfold Lib.trimPrefix
  rw [if_pos h, List.drop_left]

end Go.Proofs.YtcahlmneancapaaGreatDoor.Clep

/- Names of files of any kind: what man.Name and man.Number do when called with any text and any number (walks over the translated program). Texts of at most 300 bytes; three variables of the library read as they were laid. -/
namespace Go.Proofs.YtcahlmneancapaaGreatDoor.Clep
open Go.RowKit Go.Maps
set_option linter.unusedVariables false
set_option maxRecDepth 10000

/-- The library's variables, as they were laid. -/
structure Sv (w : World) : Prop where
  tab : Lib.TabIs Tryz.prog w "internal/strconv.uint64pow10" .u64 Lib.pow10Tab
  syn : ∃ tp p, w.var? Tryz.prog "strconv.ErrSyntax" = some #[.iface tp p]
  rng : ∃ tp p, w.var? Tryz.prog "strconv.ErrRange" = some #[.iface tp p]
theorem var_keeps {P : Program} {w w' : World} {n : String} {cs : Array Value} (h : w.var? P n = some cs) (hb : Below w.heap.size w w') : w'.var? P n = some cs := by
  unfold World.var? at *
  cases hg : P.globalNamed n with
  | none => simp [hg] at h
  | some g =>
    simp only [hg, Option.bind_some] at h ⊢
    have hlt : g < w.heap.size := by
      rcases Nat.lt_or_ge g w.heap.size with h' | h'
      · exact h'
      · rw [Array.getElem?_eq_none h'] at h; simp at h
    rw [hb.block g hlt]
    exact h
theorem Sv.below {w w' : World} (h : Sv w) (hb : Below w.heap.size w w') : Sv w' := by
  obtain ⟨h1, ⟨a, b, h2⟩, ⟨c, d, h3⟩⟩ := h
  exact ⟨var_keeps h1 hb, ⟨a, b, var_keeps h2 hb⟩, ⟨c, d, var_keeps h3 hb⟩⟩
theorem name_gen (k : ByteArray) (n : Int) (w : World) (hv : Sv w) (h0 : -9223372036854775808 ≤ n) (h1 : n ≤ 9223372036854775807) :
    Calls Tryz.prog 23 #[.string k, .int .i64 n] w fun e w' => e = .returned (.string (nameV k n)) ∧ Below w.heap.size w w' := by
  have K := hide (iskind_any k w)
  by_cases hk : isK k = true
  · rw [hk] at K
    by_cases hr : 1 ≤ n ∧ n ≤ 1073741824
    · obtain ⟨m, rfl⟩ : ∃ m : Nat, n = (m : Int) := ⟨n.toNat, by omega⟩
      have I := hide (Any.strconv_Itoa Tryz.itoaA (m : Int) (by omega) (by omega) w hv.tab)
      rw [nameV_good hk (by omega) (by omega)]
      rw [Lib.itoa_nonneg] at I
      have hs3 := isK_size hk
      have hd := digits_len10 (n := m) (by omega)
      have hp : kPt.size = 1 := rfl
      have hsz : (ByteArray.mk (Lib.decDigits m).toArray).size ≤ 10 := by simpa [ByteArray.size] using hd.2
      have a1 : ∀ W, (Op.stringOp .add k kPt).run Tryz.prog W = .ok (.string (k ++ kPt)) W := fun W => run_string_add_sum W _ _ (by omega)
      have a2 : ∀ W, (Op.stringOp .add (k ++ kPt) ⟨(Lib.decDigits m).toArray⟩).run Tryz.prog W = .ok (.string (k ++ kPt ++ ⟨(Lib.decDigits m).toArray⟩)) W := fun W => run_string_add_sum W _ _ (by rw [ByteArray.size_append]; omega)
      generalize (⟨(Lib.decDigits m).toArray⟩ : ByteArray) = D at *
      have e1 : decide ((m : Int) < 1) = false := by simp; omega
      have e2 : decide (1073741824 < (m : Int)) = false := by simp; omega
      unfold kPt at a1 a2 ⊢
      generalize k ++ { data := #[46] } = T at *
      clear hk hs3 hd hp hsz h0 h1
      go_enter Tryz.func23, Tryz.ntmps23
      go_wp2_with fail
      refine K.out.mono ?_
      rintro e w1 ⟨rfl, rfl⟩
      clear K
      go_wp2_with fail
      refine I.out.mono ?_
      rintro e w2 ⟨rfl, kk, os, rfl⟩
      have hb := hide (Lib.below_grow w1.heap.size w1 (Nat.le_refl _) kk os)
      clear I
      go_wp2
      go_ret
      exact ⟨rfl, hb.out⟩
    · rw [nameV_bad (fun h => hr h.2)]
      clear hk
      by_cases h2 : n < 1
      · go_enter Tryz.func23, Tryz.ntmps23
        go_wp2_with fail
        refine K.out.mono ?_
        rintro e w1 ⟨rfl, rfl⟩
        clear K
        go_wp2
        go_ret
        exact ⟨rfl, Below.refl _ _⟩
      · have h3 : 1073741824 < n := by omega
        clear hr
        go_enter Tryz.func23, Tryz.ntmps23
        go_wp2_with fail
        refine K.out.mono ?_
        rintro e w1 ⟨rfl, rfl⟩
        clear K
        go_wp2
        go_ret
        exact ⟨rfl, Below.refl _ _⟩
  · rw [nameV_bad (fun h => hk h.1)]
    have hk' : isK k = false := by simpa using hk
    rw [hk'] at K
    clear hk hk'
    go_enter Tryz.func23, Tryz.ntmps23
    go_wp2_with fail
    refine K.out.mono ?_
    rintro e w1 ⟨rfl, rfl⟩
    clear K
    go_wp2
    go_ret
    exact ⟨rfl, Below.refl _ _⟩
/-- Atoi, of any text. -/
theorem atoi_gen (s : ByteArray) (hs : s.size ≤ 1000) (w : World) (hv : Sv w) :
    Calls Tryz.prog 56 #[.string s] w fun e w' => Below w.heap.size w w' ∧ ((∃ v : Int, Lib.atoiAll s.data.toList = .ok v ∧ e = .returned (.tuple #[.int .i64 v, .nilIface])) ∨ ((∀ v, Lib.atoiAll s.data.toList ≠ .ok v) ∧ ∃ x tp p, e = .returned (.tuple #[.int .i64 x, .iface tp p]))) := by
  cases h : Lib.atoiAll s.data.toList with
  | ok v =>
    refine (atoi_any s v h hs w).mono ?_
    rintro e w' ⟨rfl, hb⟩
    exact ⟨hb, .inl ⟨v, rfl, rfl⟩⟩
  | «syntax» =>
    obtain ⟨tp, p, hx⟩ := hv.syn
    refine (Any.strconv_Atoi_syntax_var Tryz.atoiA s (by omega) h tp p w hx).mono ?_
    rintro e w' ⟨N, rfl, -, -, hb⟩
    exact ⟨hb, .inr ⟨(fun v h => by cases h), _, _, _, rfl⟩⟩
  | range =>
    obtain ⟨tp, p, hx⟩ := hv.rng
    refine (Any.strconv_Atoi_range_var Tryz.atoiA s (by omega) h tp p w hx).mono ?_
    rintro e w' ⟨N, rfl, -, -, hb⟩
    exact ⟨hb, .inr ⟨(fun v h => by cases h), _, _, _, rfl⟩⟩
theorem str_ne' {s t : ByteArray} (h : s ≠ t) : (s.toList == t.toList) = false := by
  rw [ByteArray.toList_eq t]
  exact str_ne h
/-- What Number answers. -/
def NumR (s kd : ByteArray) (k : Int) (ok : Bool) : Prop :=
  (ok = true → nameV kd k = s ∧ -9223372036854775808 ≤ k ∧ k ≤ 9223372036854775807) ∧ (ok = false → k = 0) ∧
  (∀ v, Lib.hasPrefix s.data.toList (kd ++ kPt).data.toList = true → Lib.atoiAll (Lib.trimPrefix s.data.toList (kd ++ kPt).data.toList) = .ok v → nameV kd v = s → ok = true ∧ k = v)
theorem number_gen (s kd : ByteArray) (hs : s.size ≤ 300) (hkd : kd.size ≤ 300) (w : World) (hv : Sv w) :
    Calls Tryz.prog 24 #[.string s, .string kd] w fun e w' => ∃ k ok, e = .returned (.tuple #[.int .i64 k, .bool ok]) ∧ NumR s kd k ok ∧ Below w.heap.size w w' := by
  cases hp : Lib.hasPrefix s.data.toList (kd ++ kPt).data.toList with
  | false =>
    refine (number_not s kd (by omega) hp w).mono ?_
    rintro e w' ⟨rfl, rfl⟩
    exact ⟨0, false, rfl, ⟨(fun h => by cases h), (fun _ => rfl), fun v h => by rw [hp] at h; cases h⟩, Below.refl _ _⟩
  | true =>
    have C := hide (cut_any s (kd ++ kPt) w)
    rw [hp] at C
    have hsz : (⟨(Lib.trimPrefix s.data.toList (kd ++ kPt).data.toList).toArray⟩ : ByteArray).size ≤ 1000 := by
      have h3 : s.data.toList.length = s.size := by rw [Array.length_toList]; rfl
      show (Lib.trimPrefix s.data.toList (kd ++ kPt).data.toList).toArray.size ≤ 1000
      rw [List.size_toArray]
      unfold Lib.trimPrefix
      rw [if_pos hp]
      exact Nat.le_trans (List.Sublist.length_le (List.drop_sublist _ _)) (by omega)
    have A := hide (atoi_gen ⟨(Lib.trimPrefix s.data.toList (kd ++ kPt).data.toList).toArray⟩ hsz w hv)
    have N := hide (fun n W (hW : Below w.heap.size w W) => name_gen kd n W (hv.below hW))
    have HP := hide hp
    have hat : ∀ v, Lib.atoiAll (⟨(Lib.trimPrefix s.data.toList (kd ++ kPt).data.toList).toArray⟩ : ByteArray).data.toList = .ok v ↔ Lib.atoiAll (Lib.trimPrefix s.data.toList (kd ++ kPt).data.toList) = .ok v := fun v => by rw [List.toList_toArray]
    have HAT := hide hat
    have a1 : (Op.stringOp .add kd kPt).run Tryz.prog w = .ok (.string (kd ++ kPt)) w := run_string_add_sum w _ _ (by have : kPt.size = 1 := rfl; omega)
    have BT := hide (fun (l : List UInt8) (v : Int) (h : Lib.atoiAll l = .ok v) => Lib.atoiAll_bounds h)
    unfold NumR
    unfold kPt at a1 C A HP HAT ⊢
    generalize kd ++ { data := #[46] } = T at *
    generalize (⟨(Lib.trimPrefix s.data.toList T.data.toList).toArray⟩ : ByteArray) = D at *
    clear hp hsz hat hv
    go_enter Tryz.func24, Tryz.ntmps24
    go_wp2_with fail
    refine C.out.mono ?_
    rintro e w1 ⟨rfl, rfl⟩
    clear C a1
    go_wp2_with fail
    refine A.out.mono ?_
    rintro e w2 ⟨hb, hcase⟩
    have HB := hide hb
    clear A hb
    rcases hcase with ⟨v, hat, rfl⟩ | ⟨hno, x, tp, p, rfl⟩
    · obtain ⟨b0, b1⟩ := BT.out _ _ hat
      have HV := hide ((HAT.out v).1 hat)
      have NM := hide (N.out v w2 HB.out b0 b1)
      clear hat b0 b1 N
      go_wp2_with fail
      refine NM.out.mono ?_
      rintro e w3 ⟨rfl, hb3⟩
      have HB3 := hide (bmore HB.out hb3)
      clear hb3 NM
      by_cases hn : nameV kd v = s
      · have HN := hide hn
        have e0 : (s.toList == s.toList) = true := by simp
        rw [hn]
        clear hn
        go_wp2
        go_ret2
        obtain ⟨b0, b1⟩ := BT.out _ _ HV.out
        exact ⟨v, true, rfl, ⟨fun _ => ⟨HN.out, b0, b1⟩, (fun h => by cases h), fun v' _ h2 _ => ⟨rfl, by have := HV.out.symm.trans h2; injection this⟩⟩, HB3.out⟩
      · have HN := hide hn
        have e0 := str_ne' hn
        clear hn
        obtain ⟨Z, hZ⟩ : ∃ Z, nameV kd v = Z := ⟨_, rfl⟩
        rw [hZ] at e0 ⊢
        clear hZ
        go_wp2
        go_ret2
        exact ⟨0, false, rfl, ⟨(fun h => by cases h), (fun _ => rfl), fun v' _ h2 h3 => by have h4 := HV.out.symm.trans h2; injection h4 with h4; subst h4; exact absurd h3 HN.out⟩, HB3.out⟩
    · clear N
      go_wp2
      go_ret2
      exact ⟨0, false, rfl, ⟨(fun h => by cases h), (fun _ => rfl), fun v' _ h2 _ => absurd ((HAT.out v').2 h2) (hno v')⟩, HB.out⟩

end Go.Proofs.YtcahlmneancapaaGreatDoor.Clep

/- What a row that lists the library's variables gives a walk. No conditions. -/
namespace Go.Proofs.YtcahlmneancapaaGreatDoor.Clep
open Go.RowKit Go.Maps
set_option linter.unusedVariables false
set_option maxRecDepth 10000

theorem star_err : "*" ++ "errors.errorString" = "*errors.errorString" := by decide
theorem nrow (u : TypeId) (h : Tryz.prog.typeName? 3 u = some "*errors.errorString") : u = 249 := by
  exact typeName_ptr_named (nm := "errors.errorString") (by rw [star_err]; kernel_rfl) (by kernel_rfl) (by decide) u (by rw [star_err]; exact h)
theorem sv_of_laid {W : World} {x y : String × DataW Unit} (h : laidMet Tryz.prog (x :: y :: ("internal/strconv.uint64pow10", Lib.tabData .u64 Lib.pow10Tab) :: ("strconv.ErrRange", .iface "*errors.errorString" (.ptr (.agg [.lit (.string [118, 97, 108, 117, 101, 32, 111, 117, 116, 32, 111, 102, 32, 114, 97, 110, 103, 101])]))) :: ("strconv.ErrSyntax", .iface "*errors.errorString" (.ptr (.agg [.lit (.string [105, 110, 118, 97, 108, 105, 100, 32, 115, 121, 110, 116, 97, 120])]))) :: []) W) : Sv W := by
  have h2 := h.tail.tail
  have h3 := h2.tail
  have h4 := h3.tail
  obtain ⟨a1, s1, hv1, -⟩ := laid_sentinel h3 (g := 1) (by kernel_rfl) (ti := 118) (by kernel_rfl) Tryz.underlying118 nrow Tryz.underlying249 Tryz.underlying251 rfl rfl Tryz.underlying9 (by kernel_rfl) (by kernel_rfl)
  obtain ⟨a2, s2, hv2, -⟩ := laid_sentinel h4 (g := 0) (by kernel_rfl) (ti := 118) (by kernel_rfl) Tryz.underlying118 nrow Tryz.underlying249 Tryz.underlying251 rfl rfl Tryz.underlying9 (by kernel_rfl) (by kernel_rfl)
  exact ⟨Lib.tabIs_of_head (g := 2) (t := 246) (by kernel_rfl) (by kernel_rfl) Tryz.underlying246 Tryz.underlying29 (by kernel_rfl) (by kernel_rfl) h2, ⟨_, _, hv2⟩, ⟨_, _, hv1⟩⟩

end Go.Proofs.YtcahlmneancapaaGreatDoor.Clep

/- The statement ManNames: it answers true (a walk over the translated program). Conditions: three variables of the library read as they were laid. -/
namespace Go.Proofs.YtcahlmneancapaaGreatDoor.Clep
open Go.RowKit Go.Maps
set_option linter.unusedVariables false
set_option maxRecDepth 10000

def kX : ByteArray := ⟨#[120]⟩
def kZeros : ByteArray := ⟨#[48, 48, 48, 48, 48, 48, 48, 48, 48, 48]⟩
theorem nameV_isK {k : ByteArray} {n : Int} (h : isK k = true) (h1 : 1 ≤ n) (h2 : n ≤ 1073741824) : nameV k n = k ++ kPt ++ ⟨(Lib.decDigits n.toNat).toArray⟩ := by
  unfold nameV
  rw [if_pos ⟨h, h1, h2⟩]
/-- A name, read back. -/
theorem name_back {k : ByteArray} {n : Int} (h : isK k = true) (h1 : 1 ≤ n) (h2 : n ≤ 1073741824) : Lib.hasPrefix (nameV k n).data.toList (k ++ kPt).data.toList = true ∧ Lib.atoiAll (Lib.trimPrefix (nameV k n).data.toList (k ++ kPt).data.toList) = .ok n := by
  rw [nameV_isK h h1 h2]
  obtain ⟨a, b⟩ := cut_app (k ++ kPt) ⟨(Lib.decDigits n.toNat).toArray⟩
  rw [b]
  refine ⟨a, ?_⟩
  have := atoi_digits (n := n.toNat) (by omega)
  rw [show ((n.toNat : Nat) : Int) = n by omega] at this
  exact this
theorem name_long {k : ByteArray} {n m : Int} (h : isK k = true) (h1 : 1 ≤ n) (h2 : n ≤ 1073741824) : nameV k m ≠ nameV k n ++ kZeros := by
  intro e
  have e1 := congrArg ByteArray.size e
  have hz : kZeros.size = 10 := rfl
  have hp : kPt.size = 1 := rfl
  have h3 := isK_size h
  have h4 := nameV_size k m
  have h5 := digits_len10 (n := n.toNat) (by omega)
  have h6 : (ByteArray.mk (Lib.decDigits n.toNat).toArray).size = (Lib.decDigits n.toNat).length := by simp [ByteArray.size]
  rw [ByteArray.size_append, hz, nameV_isK h h1 h2, ByteArray.size_append, ByteArray.size_append] at e1
  omega
theorem name_other (m : Int) : nameV kX m = ⟨#[]⟩ := nameV_bad (fun h => by have := h.1; revert this; decide)
theorem name_cut {k : ByteArray} {n : Int} (h : isK k = true) (h1 : 1 ≤ n) (h2 : n ≤ 1073741824) : (nameV k n).extract 0 4 = k ++ kPt := by
  rw [nameV_isK h h1 h2]
  have h3 := isK_size h
  have hp : kPt.size = 1 := rfl
  have h4 : (k ++ kPt).size = 4 := by rw [ByteArray.size_append]; omega
  rw [show (4 : Nat) = (k ++ kPt).size from h4.symm]
  exact ByteArray.extract_append_eq_left rfl
theorem deq_str (s t : ByteArray) : decide (s = t) = (s.toList == t.data.toList) := by
  by_cases h : s = t
  · subst h
    rw [ByteArray.toList_eq]
    simp
  · rw [str_ne h]
    exact decide_eq_false h
theorem isK_bits (k : ByteArray) : isK k = ((k.toList == [108, 111, 103]) || ((k.toList == [116, 97, 98]) || (k.toList == [109, 97, 110]))) := by
  unfold isK
  rw [deq_str, deq_str, deq_str]
  rfl
theorem name_empty {k : ByteArray} {n : Int} : ((nameV k n).toList == []) = !decide (isK k = true ∧ 1 ≤ n ∧ n ≤ 1073741824) := by
  have h0 := deq_str (nameV k n) ⟨#[]⟩
  rw [show ((nameV k n).toList == []) = ((nameV k n).toList == (⟨#[]⟩ : ByteArray).data.toList) from rfl, ← h0]
  by_cases h : isK k = true ∧ 1 ≤ n ∧ n ≤ 1073741824
  · rw [decide_eq_true h]
    refine decide_eq_false fun e => ?_
    have e1 := congrArg ByteArray.size e
    rw [nameV_isK h.1 h.2.1 h.2.2, ByteArray.size_append, ByteArray.size_append, isK_size h.1] at e1
    have e2 : (⟨#[]⟩ : ByteArray).size = 0 := rfl
    omega
  · rw [decide_eq_false h, nameV_bad h]
    rfl
set_option maxHeartbeats 4000000 in
theorem mannames_any (s k : ByteArray) (n : Int) (w : World) (hv : Sv w) (hs : s.size ≤ 9223372036854775807) (hk : k.size ≤ 9223372036854775807) (n0 : -9223372036854775808 ≤ n) (n1 : n ≤ 9223372036854775807) :
    Calls Tryz.prog 5 #[.string s, .string k, .int .i64 n] w fun e w' => e = .returned (.bool true) ∧ Below w.heap.size w w' := by
  have AW := hide (fun W => mawake_any W)
  have HV := hide hv
  have NM := hide (fun k n W (hW : Below w.heap.size w W) n0 n1 => name_gen k n W (hv.below hW) n0 n1)
  have NU := hide (fun s k W (hW : Below w.heap.size w W) h1 h2 => number_gen s k h1 h2 W (hv.below hW))
  clear hv
  by_cases q1 : (100 : Int) < (s.size : Int)
  · go_enter Tryz.func5, Tryz.ntmps5
    go_wp2_with fail
    refine (AW.out w).mono ?_
    rintro e w1 ⟨rfl, hb⟩
    have HB := hide hb
    clear AW hb
    go_wp2
    go_ret
    exact ⟨rfl, HB.out⟩
  · by_cases q2 : (100 : Int) < (k.size : Int)
    · go_enter Tryz.func5, Tryz.ntmps5
      go_wp2_with fail
      refine (AW.out w).mono ?_
      rintro e w1 ⟨rfl, hb⟩
      have HB := hide hb
      clear AW hb
      go_wp2
      go_ret
      exact ⟨rfl, HB.out⟩
    · have N1 := hide (NM.out k n w (Below.refl _ _) n0 n1)
      obtain ⟨t, ht⟩ : ∃ t, nameV k n = t := ⟨_, rfl⟩
      have HT := hide ht
      rw [ht] at N1
      clear ht
      go_enter Tryz.func5, Tryz.ntmps5
      go_wp2_with fail
      refine N1.out.mono ?_
      rintro e w1 ⟨rfl, hb1⟩
      have HB1 := hide hb1
      clear N1 hb1
      obtain ⟨gd, hgd⟩ : ∃ b, decide (isK k = true ∧ 1 ≤ n ∧ n ≤ 1073741824) = b := ⟨_, rfl⟩
      have HGD := hide hgd
      have e5 : (t.toList == []) = !gd := by rw [← HT.out, name_empty, hgd]
      have hsz : t.size ≤ 14 := by rw [← HT.out]; exact nameV_size k n
      obtain ⟨wo, hwo⟩ : ∃ x, x = w1 := ⟨_, rfl⟩
      subst hwo
      go_upto_region 4 with fail
      go_cut [8] from 17 to 117 (fun s8 wx => s8 = .bool gd ∧ wo = wx)
      case first =>
        obtain ⟨b1, e1⟩ : ∃ b, (k.toList == [108, 111, 103]) = b := ⟨_, rfl⟩
        obtain ⟨b2, e2⟩ : ∃ b, (k.toList == [116, 97, 98]) = b := ⟨_, rfl⟩
        obtain ⟨b3, e3⟩ : ∃ b, (k.toList == [109, 97, 110]) = b := ⟨_, rfl⟩
        rw [isK_bits, e1, e2, e3] at hgd
        by_cases r1 : (1 : Int) ≤ n
        · by_cases r2 : n ≤ 1073741824
          · have hgd' : gd = (b1 || (b2 || b3)) := by rw [← hgd]; simp [r1, r2]
            clear hgd e5
            cases b1 <;> cases b2 <;> cases b3
            all_goals
              go_wp2_with fail
              go_meet
              case rel => exact ⟨by rw [hgd']; rfl, rfl⟩
          · have hgd' : gd = false := by rw [← hgd]; simp [r2]
            have r3 : 1073741824 < n := by omega
            clear hgd e5
            cases b1 <;> cases b2 <;> cases b3
            all_goals
              go_wp2_with fail
              go_meet
              case rel => exact ⟨by rw [hgd'], rfl⟩
        · have hgd' : gd = false := by rw [← hgd]; simp [r1]
          have r3 : n < 1 := by omega
          clear hgd e5
          cases b1 <;> cases b2 <;> cases b3
          all_goals
            go_wp2_with fail
            go_meet
            case rel => exact ⟨by rw [hgd'], rfl⟩
      case rest =>
        obtain ⟨rfl, rfl⟩ := hcut
        clear hgd
        go_upto_region 5 with fail
        go_cut [50] from 17 to 117 (fun s50 wx => s50 = .bool false ∧ wo = wx)
        case first =>
          cases gd
          all_goals
            go_wp2_with fail
            go_meet
            case rel => exact ⟨by first | rfl | trivial, rfl⟩
        case rest =>
          obtain ⟨rfl, rfl⟩ := hcut
          have U1 := hide (NU.out s k wo HB1.out (by omega) (by omega))
          go_wp2_with fail
          refine U1.out.mono ?_
          rintro e w2 ⟨k1, ok1, rfl, ⟨p1, p2, -⟩, hb2⟩
          have HB2 := hide (bmore HB1.out hb2)
          clear U1 hb2
          go_upto_region 8 with fail
          go_cut [72] from 17 to 117 (fun s72 wx => s72 = .bool false ∧ Hid (Below w.heap.size w wx))
          case first =>
            cases ok1 with
            | true =>
              obtain ⟨h1, h2, h3⟩ := p1 rfl
              have N2 := hide (NM.out k k1 w2 HB2.out h2 h3)
              rw [h1] at N2
              have e0 : (s.toList == s.toList) = true := by simp
              clear p1 p2 h1
              go_wp2_with fail
              refine N2.out.mono ?_
              rintro e w3 ⟨rfl, hb3⟩
              have HB3 := hide (bmore HB2.out hb3)
              clear N2 hb3
              go_wp2_with fail
              go_meet
              case rel => exact ⟨by first | rfl | trivial, HB3⟩
            | false =>
              obtain rfl := p2 rfl
              clear p1 p2
              go_wp2_with fail
              go_meet
              case rel => exact ⟨by first | rfl | trivial, HB2⟩
          case rest =>
            obtain ⟨rfl, HB3⟩ := hcut
            obtain ⟨w3, hw3⟩ : ∃ x, x = wc := ⟨_, rfl⟩
            subst hw3
            clear p1 p2 HB2
            cases gd with
            | false =>
              go_wp2_with fail
              refine (AW.out _).mono ?_
              rintro e w4 ⟨rfl, hb4⟩
              have HB4 := hide (bmore HB3.out hb4)
              clear AW hb4
              go_wp2
              go_ret
              exact ⟨rfl, HB4.out⟩
            | true =>
              obtain ⟨g1, g2, g3⟩ := of_decide_eq_true HGD.out
              have hk3 := isK_size g1
              have U2 := hide (NU.out t k w3 HB3.out (by omega) (by omega))
              go_wp2_with fail
              refine U2.out.mono ?_
              rintro e w4 ⟨k2, ok2, rfl, ⟨-, -, p3⟩, hb4⟩
              obtain ⟨rfl, rfl⟩ : ok2 = true ∧ k2 = n := by
                have hb := name_back g1 g2 g3
                rw [HT.out] at hb
                exact p3 n hb.1 hb.2 HT.out
              have HB4 := hide (bmore HB3.out hb4)
              have hz : kZeros.size = 10 := rfl
              have a1 : ∀ W, (Op.stringOp .add t kZeros).run Tryz.prog W = .ok (.string (t ++ kZeros)) W := fun W => run_string_add_sum W _ _ (by omega)
              have U3 := hide (NU.out (t ++ kZeros) k w4 HB4.out (by rw [ByteArray.size_append]; omega) (by omega))
              have NL := hide (show ∀ m, nameV k m ≠ t ++ kZeros from fun m => by rw [← HT.out]; exact name_long g1 g2 g3)
              have TT := hide (show (∃ T, t ++ kZeros = T) from ⟨_, rfl⟩)
              unfold kZeros at a1 U3 NL
              generalize t ++ { data := #[48, 48, 48, 48, 48, 48, 48, 48, 48, 48] } = T at a1 U3 NL ⊢
              clear U2 hb4 p3 TT hz
              go_wp2_with fail
              refine U3.out.mono ?_
              rintro e w5 ⟨k3, ok3, rfl, ⟨p1, -, -⟩, hb5⟩
              obtain rfl : ok3 = false := by
                cases ok3 with
                | false => rfl
                | true => exact absurd (p1 rfl).1 (NL.out k3)
              have HB5 := hide (bmore HB4.out hb5)
              have U4 := hide (NU.out t kX w5 HB5.out (by omega) (by decide))
              unfold kX at U4
              clear U3 hb5 p1 a1 NL
              go_wp2_with fail
              refine U4.out.mono ?_
              rintro e w6 ⟨k4, ok4, rfl, ⟨p1, -, -⟩, hb6⟩
              obtain rfl : ok4 = false := by
                cases ok4 with
                | false => rfl
                | true =>
                  have h1 : nameV kX k4 = t := (p1 rfl).1
                  rw [name_other] at h1
                  rw [← h1, ByteArray.toList_eq] at e5
                  exact absurd e5 (by decide)
              have HB6 := hide (bmore HB5.out hb6)
              have hcutx := name_cut g1 g2 g3
              rw [HT.out] at hcutx
              have a2 : ∀ W, (Op.stringOp .add k kPt).run Tryz.prog W = .ok (.string (k ++ kPt)) W := fun W => run_string_add_sum W _ _ (by have : kPt.size = 1 := rfl; omega)
              unfold kPt at a2 hcutx
              have h4 : 4 ≤ t.size := by
                rw [← HT.out, nameV_isK g1 g2 g3, ByteArray.size_append, ByteArray.size_append]
                have : kPt.size = 1 := rfl
                omega
              obtain ⟨D, hD⟩ : ∃ D, k ++ { data := #[46] } = D := ⟨_, rfl⟩
              rw [hD] at a2 hcutx
              have e0 : (D.toList == D.toList) = true := by simp
              clear U4 hb6 p1
              go_wp2_with fail
              refine (AW.out _).mono ?_
              rintro e w7 ⟨rfl, hb7⟩
              have HB7 := hide (bmore HB6.out hb7)
              clear AW hb7
              go_wp2
              go_ret
              exact ⟨rfl, HB7.out⟩

end Go.Proofs.YtcahlmneancapaaGreatDoor.Clep
