/- SkipPlays behind its first loop: what is told is what the statement's own rows hold, walked. No conditions. -/
import Derived.Test.YtakpapgjdpnedaaTReg
import Derived.Deep.CutRange
import Derived.Deep.CutBlock
import Derived.Deep.RegionHeldLaw
import Derived.BigRegion
namespace Go.Proofs.Ytakpapgjdpnedaa.Clep
open Go.RowKit
set_option linter.unusedVariables false

/-- The slice value (ao, len, cap) leads to the ints zs. -/
def Zs (w : World) (ao : Option Addr) (len : Nat) (zs : List Int) : Prop :=
  zs.length = len ∧ (0 < len → ∃ b off, ao = some ⟨b, off, none⟩ ∧ ∀ i, i < len → w.cell? ⟨b, off + i, none⟩ = some (.int .i64 (zs.getD i 0)))
theorem Zs.below {w w' : World} {ao : Option Addr} {len : Nat} {zs : List Int} (h : Zs w ao len zs) (hb : Below w.heap.size w w') : Zs w' ao len zs := by
  refine ⟨h.1, fun h0 => ?_⟩
  obtain ⟨b, off, e, hc⟩ := h.2 h0
  exact ⟨b, off, e, fun i hi => (hb.cell (p := ⟨b, off + i, none⟩) (World.block_lt_of_cell? w _ (hc i hi))).trans (hc i hi)⟩
theorem zs_of_row {w : World} {a : Option Addr} {len cap : Nat} {zs : List Int}
    (h : (a = none ∧ len = 0 ∧ cap = 0 ∧ zs = []) ∨ ∃ x, a = some x ∧ len ≤ cap ∧ cap ≤ maxLen ∧ zs.length = cap ∧ (∀ i, i < zs.length → w.cell? (x.add i) = some (.int .i64 (zs.getD i 0))) ∧ ∀ z ∈ zs, (Lit.int .i64 z).wf = true) :
    Zs w a len (zs.take len) ∧ len ≤ 9223372036854775807 := by
  rcases h with ⟨rfl, rfl, rfl, rfl⟩ | ⟨x, rfl, hl, hm, hz, hcell, hwz⟩
  · exact ⟨⟨rfl, fun h => by omega⟩, by omega⟩
  · unfold maxLen at hm
    refine ⟨⟨by rw [List.length_take]; omega, fun h0 => ?_⟩, by omega⟩
    obtain ⟨b, off, spot⟩ := x
    have hc := hcell 0 (by omega)
    have hspot : spot = none := by simpa [Addr.add] using World.cell?_spot hc
    subst hspot
    refine ⟨b, off, rfl, fun i hi => ?_⟩
    have := hcell i (by omega)
    rw [add_plain] at this
    rw [this]
    simp [List.getD, hi]

/-- What follows the first loop of SkipPlays. -/
def rest6 : Option Code → Code
  | some (.seq _ (.seq _ (.seq _ (.seq _ (.seq _ (.seq _ r)))))) => r
  | _ => .skip

set_option maxRecDepth 100000 in
set_option maxHeartbeats 8000000 in
theorem tail_any (a2 : Option Addr) (n2 c2 : Nat) (l2 : List It) (w : World) (L2 : Hid (l2.length = n2)) (H2 : Hid (∀ W, Below w.heap.size w W → Is W a2 n2 c2 l2)) (m2 : n2 ≤ 9223372036854775807) (L : Nat) (us : List (It × Nat)) (w3 : World) (v8 v9 : Value) (hpl : Hid (Pl w w3 L us us v8 v9)) (hul : Hid (us.length ≤ 60))
    (t0 t1 t3 t4 t5 t6 t10 t11 t12 t13 t14 t15 t16 t17 t18 t19 t20 t21 t22 t23 t24 t25 t26 t27 t28 t29 t30 t31 t32 t33 t34 t35 t36 t37 t38 t39 t40 t41 t42 t43 t44 t45 t46 t47 t48 t49 t50 t51 t52 t53 t54 t55 t56 t57 t58 t59 t60 t61 t62 t63 t64 t65 t66 t67 t68 t69 t70 t71 t72 t73 t74 t75 t76 t77 t78 t79 t80 t81 t82 t83 t84 t85 t86 t87 t88 t89 t90 t91 t92 t93 t94 t95 t96 t97 t98 t99 t100 t101 t102 t103 t104 t105 t106 t107 t108 t109 t110 t111 t112 t113 t114 t115 t116 t117 t118 t119 t120 t121 t122 t123 t124 t125 t126 t127 t128 t129 t130 t131 t132 t133 t134 t135 t136 t137 t138 t139 t140 t141 t142 t143 t144 t145 t146 t147 t148 t149 t150 t151 t152 t153 t154 t155 t156 t157 t158 t159 t160 t161 t162 t163 t164 t165 t166 t167 t168 t169 t170 t171 t172 t173 t174 t175 t176 t177 t178 t179 t180 t181 t182 t183 t184 t185 t186 t187 t188 t189 t190 t191 t192 t193 t194 t195 t196 t197 t198 t199 t200 t201 t202 t203 t204 t205 t206 t207 t208 t209 t210 t211 t212 t213 t214 t215 t216 t217 t218 t219 t220 t221 t222 t223 t224 t225 t226 t227 t228 t229 t230 t231 t232 t233 t234 t235 t236 t237 t238 t239 t240 t241 t242 t243 t244 t245 t246 t247 t248 t249 t250 t251 t252 t253 t254 t255 t256 t257 t258 t259 t260 t261 t262 t263 t264 t265 t266 t267 t268 t269 : Value) :
    Code.wp Try.prog (rest6 Try.f3.body) (bodyPost Try.prog Try.f3 fun e w' => e = .returned (.bool true) ∧ Below w.heap.size w w') ⟨#[t0, t1, .slice a2 n2 c2, t3, t4, t5, t6, .pointer (some ⟨L, 0, none⟩), v8, v9, t10, t11, t12, t13, t14, t15, t16, t17, t18, t19, t20, t21, t22, t23, t24, t25, t26, t27, t28, t29, t30, t31, t32, t33, t34, t35, t36, t37, t38, t39, t40, t41, t42, t43, t44, t45, t46, t47, t48, t49, t50, t51, t52, t53, t54, t55, t56, t57, t58, t59, t60, t61, t62, t63, t64, t65, t66, t67, t68, t69, t70, t71, t72, t73, t74, t75, t76, t77, t78, t79, t80, t81, t82, t83, t84, t85, t86, t87, t88, t89, t90, t91, t92, t93, t94, t95, t96, t97, t98, t99, t100, t101, t102, t103, t104, t105, t106, t107, t108, t109, t110, t111, t112, t113, t114, t115, t116, t117, t118, t119, t120, t121, t122, t123, t124, t125, t126, t127, t128, t129, t130, t131, t132, t133, t134, t135, t136, t137, t138, t139, t140, t141, t142, t143, t144, t145, t146, t147, t148, t149, t150, t151, t152, t153, t154, t155, t156, t157, t158, t159, t160, t161, t162, t163, t164, t165, t166, t167, t168, t169, t170, t171, t172, t173, t174, t175, t176, t177, t178, t179, t180, t181, t182, t183, t184, t185, t186, t187, t188, t189, t190, t191, t192, t193, t194, t195, t196, t197, t198, t199, t200, t201, t202, t203, t204, t205, t206, t207, t208, t209, t210, t211, t212, t213, t214, t215, t216, t217, t218, t219, t220, t221, t222, t223, t224, t225, t226, t227, t228, t229, t230, t231, t232, t233, t234, t235, t236, t237, t238, t239, t240, t241, t242, t243, t244, t245, t246, t247, t248, t249, t250, t251, t252, t253, t254, t255, t256, t257, t258, t259, t260, t261, t262, t263, t264, t265, t266, t267, t268, t269], []⟩ w3 := by
  obtain ⟨Q', hQ'⟩ : ∃ Q', Q' = bodyPost Try.prog Try.f3 fun e w' => e = .returned (.bool true) ∧ Below w.heap.size w w' := ⟨_, rfl⟩
  rw [← hQ']
  dsimp only [rest6, Try.f3]
  subst hQ'
  have hul60 : us.length ≤ 60 := hul.out
  obtain ⟨ao, cap, e8, hcap, hnc, his, hfo⟩ := hpl.out.form
  subst e8
  obtain ⟨a9, cap9, e9, hc9, hn9, hf9⟩ := hpl.out.form9
  subst e9
  obtain ⟨B, hB, hBw, hBn⟩ := hpl.out.ex
  have HIS := hide (fun W (hW : Below w3.heap.size w3 W) => his.below hW (Nat.le_refl _))
  have HF9 := hide (fun W (hW : Below w3.heap.size w3 W) => (show ZrF w3 a9 us.length cap9 (snds us) from ⟨by simp [snds], hn9, hf9⟩).below hW)
  have HHB := hide (fun W (hW : Below w3.heap.size w3 W) => hB.keep hW)
  have HBW := hide hpl.out.bel
  have HWF := hide hpl.out.wf
  have CA := hide (all_h w3 L B us hB (by omega))
  have hfl : (us.map Prod.fst).length = us.length := by simp
  have HFL := hide hfl
  clear hB hBw hBn his hf9 hn9 hc9 hfo hcap hnc hfl hul
  go_wp2_with fail
  refine CA.out.mono ?_
  rintro e w4 ⟨xa, xc, rfl, hx, hxc, b4⟩
  rw [HFL.out] at hx ⊢
  have B4 := hide b4
  have CE := hide (refequal_any xa ao us.length xc us.length cap (fsts us) (fsts us) w4 hx (HIS.out _ b4) (by omega) (by omega))
  clear hx hxc b4 CA
  go_wp2_with fail
  refine CE.out.mono ?_
  rintro e w5 ⟨o, rfl, ho, b5⟩
  obtain rfl : o = true := by simpa using ho
  have B5 := hide (bmore B4.out b5)
  have CL := hide (len_h w5 L B us (HHB.out _ B5.out))
  clear ho b5 CE
  go_wp2_with fail
  refine CL.out.mono ?_
  rintro e w6 ⟨rfl, hw6⟩
  rw [hw6]
  clear hw6 CL
  have hnn : ((us.length : Int) != (us.length : Int)) = false := by simp
  go_wp2_with fail
  go_loopw [18, 19, 20] (fun s18 s19 s20 wr => ∃ n : Nat, s18 = .int .i64 n ∧ n ≤ 8 ∧ Hid (Below w3.heap.size w3 wr)) (fun s18 _ _ _ => 9 - (intOf s18).toNat)
  case atStart => exact ⟨0, rfl, by omega, B5⟩
  case round =>
    obtain ⟨n, rfl, hn8, hbel⟩ := hrel
    by_cases hn : n < 8
    · have hg7 : (n : Int) ≤ 7 := by omega
      obtain ⟨w0, rfl⟩ : ∃ w0, w0 = wr := ⟨_, rfl⟩
      go_upto_block 4 with fail
      go_cut [19, 20] from 149 to 181 (fun s19 s20 wx => Hid (OwnI wx w0.heap.size s19 (levW n us)) ∧ Hid (Below w0.heap.size w0 wx))
      case first =>
        have HB0 := hide hbel.out
        clear hbel
        go_wp2_with fail
        go_loopw [19, 20] (fun s19 s20 wq => ∃ i : Nat, s20 = .int .i64 i ∧ i ≤ us.length ∧ (n = 0 → i = 0) ∧ Hid (OwnI wq w0.heap.size s19 (fsts ((us.take i).filter fun p => decide (n ≤ p.2)))) ∧ Hid (Below w0.heap.size w0 wq)) (fun _ s20 _ => us.length - (intOf s20).toNat)
        case atStart => exact ⟨0, rfl, by omega, fun _ => rfl, hide (ownI_nil _ _), hide (Below.refl _ _)⟩
        case round =>
          obtain ⟨i, rfl, hi, hn0, hown, hbq⟩ := hrel
          by_cases hlt : i < us.length
          · by_cases hn1 : 1 ≤ n
            · obtain ⟨p, hp⟩ : ∃ p, us[i]? = some p := ⟨_, List.getElem?_eq_getElem hlt⟩
              have hpw := HWF.out p (List.mem_of_getElem? hp)
              have BQ := hide (bmore HB0.out hbq.out)
              obtain ⟨g9, rfl, hc9⟩ : ∃ g9, a9 = some ⟨g9, 0, none⟩ ∧ ∀ i, i < us.length → wr.cell? ⟨g9, i, none⟩ = some (.int .i64 ((snds us).getD i 0)) := by
                rcases (HF9.out _ BQ.out).2.2 with ⟨_, e, _⟩ | e
                · omega
                · exact e
              have hh := hc9 i hlt
              have hsd : (snds us).getD i 0 = (p.2 : Int) := by
                unfold snds
                rw [List.getD, List.getElem?_map, hp]; rfl
              rw [hsd] at hh
              have htk : us.take (i + 1) = us.take i ++ [p] := by rw [List.take_add_one, hp]; rfl
              obtain ⟨hgt, ehgt⟩ : ∃ hgt, p.2 = hgt := ⟨_, rfl⟩
              rw [ehgt] at hh
              by_cases hge : n ≤ hgt
              · have hge' : (n : Int) ≤ (hgt : Int) := by omega
                have HF := hide (show fsts ((us.take (i + 1)).filter fun p => decide (n ≤ p.2)) = fsts ((us.take i).filter fun p => decide (n ≤ p.2)) ++ [p.1] by
                  rw [htk, List.filter_append, List.filter_cons, if_pos (by simp; omega)]; simp [fsts])
                obtain ⟨b0, off, e0, hcc⟩ := (HIS.out _ BQ.out).2.2.2 (by omega)
                subst e0
                have hv := hcc i p.1 (by unfold fsts; rw [List.getElem?_map, hp]; rfl)
                have hwp := hide hpw.1
                obtain ⟨S, K, T, V, X, ep⟩ : ∃ S K T V X, p.1 = ⟨S, K, T, V, X⟩ := ⟨_, _, _, _, _, rfl⟩
                rw [ep] at hv hwp HF
                unfold Vt Vi at hv
                simp only at hv
                obtain ⟨v0, v1, v2, v3, v4⟩ := hv
                have A2 := (Below.refl wr.heap.size wr).alloc (Nat.le_refl _) (Obj.cells #[Value.int IntKind.i64 S, Value.int IntKind.i64 K, Value.int IntKind.u64 T, Value.int IntKind.u64 V, Value.int IntKind.i64 X] 29)
                have B3 := hide (bmore hbq.out A2)
                have O3 := hide (ownI_keep hown.out A2)
                have IA := hide (is_one wr S K T V X hwp.out)
                have hs := hide B3.out.size
                have HLN := hide (show (fsts ((us.take i).filter fun p => decide (n ≤ p.2))).length + 1 ≤ 1099511627776 by
                  have h1 := List.length_filter_le (fun p : It × Nat => decide (n ≤ p.2)) (us.take i)
                  have h2 := List.length_take_le i us
                  unfold fsts
                  rw [List.length_map]
                  omega)
                clear hcc A2 hpw hsd htk hc9 hp ep
                go_wp2_with (at_builtin; refine wpList_append_items rfl _ _ rfl w0.heap.size _ (fsts ((us.take i).filter fun p => decide (n ≤ p.2))) rfl O3.out _ 1 1 [(⟨S, K, T, V, X⟩ : It)] rfl IA.out HLN.out hs.out ?_; intro v5 w5 o5 g5 k5)
                have B5 := hide (B3.out.grown g5 hs.out k5)
                have O5 := hide o5
                rw [← HF.out] at O5
                clear o5 g5 k5
                go_roundw
                case rel => first | exact ⟨i + 1, by go_num, by omega, fun e => by omega, O5, B5⟩ | ((repeat apply Exists.intro); exact ⟨⟨i + 1, by go_num, by omega, fun e => by omega, O5, B5⟩, rfl⟩)
                case measure => simp [intOf]; omega
              · have hge' : ¬ ((n : Int) ≤ (hgt : Int)) := by omega
                have HF := hide (show fsts ((us.take (i + 1)).filter fun p => decide (n ≤ p.2)) = fsts ((us.take i).filter fun p => decide (n ≤ p.2)) by
                  rw [htk, List.filter_append, List.filter_cons, if_neg (by simp; omega)]; simp)
                have O5 := hide hown.out
                rw [← HF.out] at O5
                clear hpw hsd htk hc9 hp
                go_wp2_with fail
                go_roundw
                case rel => first | exact ⟨i + 1, by go_num, by omega, fun e => by omega, O5, hbq⟩ | ((repeat apply Exists.intro); exact ⟨⟨i + 1, by go_num, by omega, fun e => by omega, O5, hbq⟩, rfl⟩)
                case measure => simp [intOf]; omega
            · obtain rfl : n = 0 := by omega
              obtain rfl : i = 0 := hn0 rfl
              have O5 : Hid (OwnI wr w0.heap.size u19 (levW ((0 : Nat) : Int) us)) := by rw [Int.natCast_zero, lev_zero]; exact hown
              go_wp2
              go_meet
              exact ⟨O5, hbq⟩
          · have O5 : Hid (OwnI wr w0.heap.size u19 (levW n us)) := by
              have e1 : us.take i = us := List.take_of_length_le (by omega)
              have ho := hown.out
              rw [e1] at ho
              by_cases h0 : n = 0
              · have e2 : us = [] := List.eq_nil_of_length_eq_zero (by have := hn0 h0; omega)
                rw [e2] at ho ⊢
                rw [h0, Int.natCast_zero, lev_zero]
                exact hide ho
              · rw [lev_want us n (by omega) (fun p hp => (HWF.out p hp).2.2)]
                exact hide ho
            go_wp2
            go_meet
            exact ⟨O5, hbq⟩
      case rest =>
        obtain ⟨HO7, HB7⟩ := hcut
        obtain ⟨w7, rfl⟩ : ∃ w7, w7 = wc := ⟨_, rfl⟩
        have B7 := hide (bmore hbel.out HB7.out)
        have CV := hide (level_h w7 L B us n (HHB.out _ B7.out) (by omega))
        have hlw : ∀ x ∈ levW n us, x.wf := fun x hx => by
          unfold levW at hx
          split at hx
          · obtain ⟨p, hp, rfl⟩ := List.mem_map.1 hx
            exact (HWF.out p (List.mem_filter.1 hp).1).1
          · cases hx
        obtain ⟨ya, yc, ey, hyc, hyi, _⟩ := ownI_is HO7.out hlw
        subst ey
        obtain ⟨M, hM⟩ : ∃ M, (levW n us).length = M := ⟨_, rfl⟩
        have hM60 : M ≤ 60 := by
          rw [← hM]
          unfold levW
          split
          · rw [List.length_map]
            have := List.length_filter_le (fun p : It × Nat => decide ((n : Int) ≤ (p.2 : Int))) us
            omega
          · simp
        have HM := hide hM
        rw [hM] at hyi ⊢
        have HYI := hide hyi
        clear hyi hyc hlw hM HO7
        go_wp2_with fail
        refine CV.out.mono ?_
        rintro e w8 ⟨xa2, xc2, rfl, hx, hxc, b8⟩
        rw [HM.out] at hx ⊢
        have B8 := hide (bmore B7.out b8)
        have CE := hide (refequal_any xa2 ya M xc2 M yc (levW n us) (levW n us) w8 hx (HYI.out.below b8 (Nat.le_refl _)) (by omega) (by omega))
        clear hx hxc b8 CV
        go_wp2_with fail
        refine CE.out.mono ?_
        rintro e w9 ⟨o, rfl, ho, b9⟩
        obtain rfl : o = true := by simpa using ho
        have B9 := hide (bmore B8.out b9)
        clear ho b9 CE
        go_wp2_with fail
        go_roundw
        case rel => first | exact ⟨n + 1, by go_num, by omega, B9⟩ | ((repeat apply Exists.intro); exact ⟨⟨n + 1, by go_num, by omega, B9⟩, rfl⟩)
        case measure => simp [intOf]; omega
    · have hg7 : ¬ ((n : Int) ≤ 7) := by omega
      obtain ⟨w0, rfl⟩ : ∃ w0, w0 = wr := ⟨_, rfl⟩
      go_wp2_with fail
      go_loopw [21, 22, 23, 24, 25, 26, 27] (fun s21 s22 s23 s24 s25 s26 s27 wr => ∃ i : Nat, s21 = .int .i64 i ∧ i ≤ n2 ∧ i ≤ 30 ∧ Hid (Below w3.heap.size w3 wr)) (fun s21 _ _ _ _ _ _ _ => 31 - (intOf s21).toNat)
      case atStart => exact ⟨0, rfl, by omega, by omega, hbel⟩
      case round =>
        obtain ⟨i, rfl, hi2, hi30, hbq⟩ := hrel
        by_cases g2 : i < n2
        · by_cases g30 : i < 30
          · obtain ⟨b2, f2, ec, hce⟩ := (H2.out _ (bmore HBW.out hbq.out)).2.2.2 (by omega)
            subst ec
            obtain ⟨y, hy⟩ : ∃ y, l2[i]? = some y := ⟨_, List.getElem?_eq_getElem (by rw [L2.out]; omega)⟩
            have HVY := hide (fun W (hW : Below w.heap.size w W) => (show Vt W b2 (f2 + i * 5) y by
              obtain ⟨b', f', e', hc'⟩ := (H2.out _ hW).2.2.2 (by omega)
              cases e'
              exact hc' i y hy))
            obtain ⟨S, K, T, V, X⟩ := y
            have hv := HVY.out _ (bmore HBW.out hbq.out)
            unfold Vt Vi at hv
            simp only at hv
            obtain ⟨v0, v1, v2, v3, v4⟩ := hv
            obtain ⟨k, hk⟩ : ∃ k, posL ⟨S, K, T, V, X⟩ (fsts us) = k := ⟨_, rfl⟩
            obtain ⟨d, hd⟩ : ∃ d, isL ⟨S, K, T, V, X⟩ (fsts us) = d := ⟨_, rfl⟩
            have hkl : k ≤ us.length := by
              have := posL_le ⟨S, K, T, V, X⟩ (fsts us)
              rw [hk] at this
              simpa [fsts] using this
            have hF := from_at ⟨S, K, T, V, X⟩ us
            have hG := get_at ⟨S, K, T, V, X⟩ us
            rw [hk] at hF hG
            rw [hd] at hG
            have CT := hide (fun W (hW : Below w3.heap.size w3 W) => at_any ao us.length cap (fsts us) S K T V X W (HIS.out W hW) (by omega))
            rw [hk, hd] at CT
            have hdk : d = true → k < us.length := fun e => by
              have h1 := hd
              unfold isL at h1
              rw [hk, e] at h1
              rcases Nat.lt_or_ge k us.length with h2 | h2
              · exact h2
              · rw [List.getElem?_eq_none (by simp [fsts]; omega)] at h1
                cases h1
            obtain ⟨oF, hoF⟩ : ∃ oF, (fsts us)[k]? = oF := ⟨_, rfl⟩
            rw [hoF] at hF hG
            have CG := hide (fun W (hW : Below w3.heap.size w3 W) => get_h W L B us S K T V X (HHB.out W hW) _ hG)
            have CF := hide (fun W (hW : Below w3.heap.size w3 W) => from_h W L B us S K T V X (HHB.out W hW) _ hF)
            have HOF := hide hoF
            have HDK := hide hdk
            clear hce hy hk hd hF hG hoF hdk
            cases oF with
            | none =>
              have hkn : ¬ k < us.length := fun h => by
                have e := HOF.out
                rw [List.getElem?_eq_getElem (by simpa [fsts] using h)] at e
                cases e
              obtain rfl : d = false := by
                cases d with
                | false => rfl
                | true => exact absurd (HDK.out rfl) hkn
              simp only [Bool.false_eq_true, if_false, Option.getD_none, Option.isSome_none, itV, it0] at CG CF
              clear HDK
              go_wp2_with fail
              refine (CT.out _ hbq.out).mono ?_
              rintro e w5 ⟨rfl, b5⟩
              have B5 := hide (bmore hbq.out b5)
              have hv := HVY.out _ (bmore HBW.out B5.out)
              unfold Vt Vi at hv
              simp only at hv
              clear v0 v1 v2 v3 v4 b5
              obtain ⟨v0, v1, v2, v3, v4⟩ := hv
              go_wp2_with fail
              refine (CG.out _ B5.out).mono ?_
              rintro e w6 ⟨rfl, b6⟩
              have B6 := hide (bmore B5.out b6)
              clear v0 v1 v2 v3 v4 b6
              obtain ⟨w6a, hw6a⟩ : ∃ W, W = w6.alloc (Obj.cells #[Value.int IntKind.i64 0, Value.int IntKind.i64 0, Value.int IntKind.u64 0, Value.int IntKind.u64 0, Value.int IntKind.i64 0] 29) := ⟨_, rfl⟩
              have A6 : Below w6.heap.size w6 w6a := by rw [hw6a]; exact (Below.refl _ _).alloc (Nat.le_refl _) _
              have B6a := hide (bmore B6.out A6)
              have x1 := vi_new w6 0 0 0 0 0
              rw [← hw6a] at x1
              have X1 := hide x1
              obtain ⟨R1, hR1⟩ : ∃ R, R = w6.heap.size := ⟨_, rfl⟩
              rw [← hR1] at X1
              have hv := HVY.out _ (bmore HBW.out B6a.out)
              unfold Vt Vi at hv
              simp only at hv
              rw [hw6a] at hv
              obtain ⟨v0, v1, v2, v3, v4⟩ := hv
              clear A6 x1
              go_wp2_with fail
              rw [← hw6a, ← hR1]
              clear v0 v1 v2 v3 v4 hw6a hR1
              refine (CF.out _ B6a.out).mono ?_
              rintro e w7 ⟨rfl, b7⟩
              have B7 := hide (bmore B6a.out b7)
              have X7 := hide (X1.out.keep b7)
              clear b7 X1
              obtain ⟨w7a, hw7a⟩ : ∃ W, W = w7.alloc (Obj.cells #[Value.int IntKind.i64 0, Value.int IntKind.i64 0, Value.int IntKind.u64 0, Value.int IntKind.u64 0, Value.int IntKind.i64 0] 29) := ⟨_, rfl⟩
              have A7 : Below w7.heap.size w7 w7a := by rw [hw7a]; exact (Below.refl _ _).alloc (Nat.le_refl _) _
              have B7a := hide (bmore B7.out A7)
              have y1 := vi_new w7 0 0 0 0 0
              rw [← hw7a] at y1
              have Y1 := hide y1
              have X7a := hide (X7.out.keep A7)
              obtain ⟨R2, hR2⟩ : ∃ R, R = w7.heap.size := ⟨_, rfl⟩
              rw [← hR2] at Y1
              have qx := X7a.out
              have qy := Y1.out
              unfold Vi at qx qy
              simp only [Nat.zero_add] at qx qy
              obtain ⟨x0, x1, x2, x3, x4⟩ := qx
              obtain ⟨y0, y1', y2, y3, y4⟩ := qy
              have hkk : ¬ ((k : Int) < (us.length : Int)) := by omega
              clear A7 y1
              go_wp2_with fail
              rw [← hw7a, ← hR2]
              clear hw7a hR2
              go_region
              have B8 := hide B7a.out.drew
              go_wp2_with fail
              go_roundw
              case rel => first | exact ⟨i + 1, by go_num, by omega, by omega, B8⟩ | ((repeat apply Exists.intro); exact ⟨⟨i + 1, by go_num, by omega, by omega, B8⟩, rfl⟩)
              case measure => simp [intOf]; omega
            | some y1 =>
              obtain ⟨S1, K1, T1, V1, X1⟩ := y1
              have hkn : k < us.length := by
                have := (List.getElem?_eq_some_iff.1 HOF.out).1
                simpa [fsts] using this
              cases d with
              | true =>
                simp only [if_true, Option.getD_some, Option.isSome_some, itV] at CG CF
                clear HDK
                go_wp2_with fail
                refine (CT.out _ hbq.out).mono ?_
                rintro e w5 ⟨rfl, b5⟩
                have B5 := hide (bmore hbq.out b5)
                have hv := HVY.out _ (bmore HBW.out B5.out)
                unfold Vt Vi at hv
                simp only at hv
                clear v0 v1 v2 v3 v4 b5
                obtain ⟨v0, v1, v2, v3, v4⟩ := hv
                go_wp2_with fail
                refine (CG.out _ B5.out).mono ?_
                rintro e w6 ⟨rfl, b6⟩
                have B6 := hide (bmore B5.out b6)
                clear v0 v1 v2 v3 v4 b6
                obtain ⟨w6a, hw6a⟩ : ∃ W, W = w6.alloc (Obj.cells #[Value.int IntKind.i64 S1, Value.int IntKind.i64 K1, Value.int IntKind.u64 T1, Value.int IntKind.u64 V1, Value.int IntKind.i64 X1] 29) := ⟨_, rfl⟩
                have A6 : Below w6.heap.size w6 w6a := by rw [hw6a]; exact (Below.refl _ _).alloc (Nat.le_refl _) _
                have B6a := hide (bmore B6.out A6)
                have x1 := vi_new w6 S1 K1 T1 V1 X1
                rw [← hw6a] at x1
                have X1 := hide x1
                obtain ⟨R1, hR1⟩ : ∃ R, R = w6.heap.size := ⟨_, rfl⟩
                rw [← hR1] at X1
                have hv := HVY.out _ (bmore HBW.out B6a.out)
                unfold Vt Vi at hv
                simp only at hv
                rw [hw6a] at hv
                obtain ⟨v0, v1, v2, v3, v4⟩ := hv
                clear A6 x1
                go_wp2_with fail
                rw [← hw6a, ← hR1]
                clear v0 v1 v2 v3 v4 hw6a hR1
                refine (CF.out _ B6a.out).mono ?_
                rintro e w7 ⟨rfl, b7⟩
                have B7 := hide (bmore B6a.out b7)
                have X7 := hide (X1.out.keep b7)
                clear b7 X1
                obtain ⟨w7a, hw7a⟩ : ∃ W, W = w7.alloc (Obj.cells #[Value.int IntKind.i64 S1, Value.int IntKind.i64 K1, Value.int IntKind.u64 T1, Value.int IntKind.u64 V1, Value.int IntKind.i64 X1] 29) := ⟨_, rfl⟩
                have A7 : Below w7.heap.size w7 w7a := by rw [hw7a]; exact (Below.refl _ _).alloc (Nat.le_refl _) _
                have B7a := hide (bmore B7.out A7)
                have y1 := vi_new w7 S1 K1 T1 V1 X1
                rw [← hw7a] at y1
                have Y1 := hide y1
                have X7a := hide (X7.out.keep A7)
                obtain ⟨R2, hR2⟩ : ∃ R, R = w7.heap.size := ⟨_, rfl⟩
                rw [← hR2] at Y1
                have qx := X7a.out
                have qy := Y1.out
                unfold Vi at qx qy
                simp only [Nat.zero_add] at qx qy
                obtain ⟨x0, x1, x2, x3, x4⟩ := qx
                obtain ⟨y0, y1', y2, y3, y4⟩ := qy
                have hI7 := HIS.out _ B7a.out
                obtain ⟨b8, f8, e8, hc8⟩ := hI7.2.2.2 (by omega)
                have hv8 := hc8 k _ HOF.out
                unfold Vt Vi at hv8
                simp only at hv8
                obtain ⟨z0, z1, z2, z3, z4⟩ := hv8
                subst e8
                clear hI7 hc8
                have hkk : (k : Int) < (us.length : Int) := by omega
                clear A7 y1
                go_wp2_with fail
                rw [← hw7a, ← hR2]
                clear hw7a hR2
                go_region
                have B8 := hide B7a.out.drew
                go_wp2_with fail
                go_roundw
                case rel => first | exact ⟨i + 1, by go_num, by omega, by omega, B8⟩ | ((repeat apply Exists.intro); exact ⟨⟨i + 1, by go_num, by omega, by omega, B8⟩, rfl⟩)
                case measure => simp [intOf]; omega
              | false =>
                simp only [Bool.false_eq_true, if_false, Option.getD_none, Option.isSome_none, Option.getD_some, Option.isSome_some, itV, it0] at CG CF
                clear HDK
                go_wp2_with fail
                refine (CT.out _ hbq.out).mono ?_
                rintro e w5 ⟨rfl, b5⟩
                have B5 := hide (bmore hbq.out b5)
                have hv := HVY.out _ (bmore HBW.out B5.out)
                unfold Vt Vi at hv
                simp only at hv
                clear v0 v1 v2 v3 v4 b5
                obtain ⟨v0, v1, v2, v3, v4⟩ := hv
                go_wp2_with fail
                refine (CG.out _ B5.out).mono ?_
                rintro e w6 ⟨rfl, b6⟩
                have B6 := hide (bmore B5.out b6)
                clear v0 v1 v2 v3 v4 b6
                obtain ⟨w6a, hw6a⟩ : ∃ W, W = w6.alloc (Obj.cells #[Value.int IntKind.i64 0, Value.int IntKind.i64 0, Value.int IntKind.u64 0, Value.int IntKind.u64 0, Value.int IntKind.i64 0] 29) := ⟨_, rfl⟩
                have A6 : Below w6.heap.size w6 w6a := by rw [hw6a]; exact (Below.refl _ _).alloc (Nat.le_refl _) _
                have B6a := hide (bmore B6.out A6)
                have x1 := vi_new w6 0 0 0 0 0
                rw [← hw6a] at x1
                have X1 := hide x1
                obtain ⟨R1, hR1⟩ : ∃ R, R = w6.heap.size := ⟨_, rfl⟩
                rw [← hR1] at X1
                have hv := HVY.out _ (bmore HBW.out B6a.out)
                unfold Vt Vi at hv
                simp only at hv
                rw [hw6a] at hv
                obtain ⟨v0, v1, v2, v3, v4⟩ := hv
                clear A6 x1
                go_wp2_with fail
                rw [← hw6a, ← hR1]
                clear v0 v1 v2 v3 v4 hw6a hR1
                refine (CF.out _ B6a.out).mono ?_
                rintro e w7 ⟨rfl, b7⟩
                have B7 := hide (bmore B6a.out b7)
                have X7 := hide (X1.out.keep b7)
                clear b7 X1
                obtain ⟨w7a, hw7a⟩ : ∃ W, W = w7.alloc (Obj.cells #[Value.int IntKind.i64 S1, Value.int IntKind.i64 K1, Value.int IntKind.u64 T1, Value.int IntKind.u64 V1, Value.int IntKind.i64 X1] 29) := ⟨_, rfl⟩
                have A7 : Below w7.heap.size w7 w7a := by rw [hw7a]; exact (Below.refl _ _).alloc (Nat.le_refl _) _
                have B7a := hide (bmore B7.out A7)
                have y1 := vi_new w7 S1 K1 T1 V1 X1
                rw [← hw7a] at y1
                have Y1 := hide y1
                have X7a := hide (X7.out.keep A7)
                obtain ⟨R2, hR2⟩ : ∃ R, R = w7.heap.size := ⟨_, rfl⟩
                rw [← hR2] at Y1
                have qx := X7a.out
                have qy := Y1.out
                unfold Vi at qx qy
                simp only [Nat.zero_add] at qx qy
                obtain ⟨x0, x1, x2, x3, x4⟩ := qx
                obtain ⟨y0, y1', y2, y3, y4⟩ := qy
                have hI7 := HIS.out _ B7a.out
                obtain ⟨b8, f8, e8, hc8⟩ := hI7.2.2.2 (by omega)
                have hv8 := hc8 k _ HOF.out
                unfold Vt Vi at hv8
                simp only at hv8
                obtain ⟨z0, z1, z2, z3, z4⟩ := hv8
                subst e8
                clear hI7 hc8
                have hkk : (k : Int) < (us.length : Int) := by omega
                clear A7 y1
                go_wp2_with fail
                rw [← hw7a, ← hR2]
                clear hw7a hR2
                go_region
                have B8 := hide B7a.out.drew
                go_wp2_with fail
                go_roundw
                case rel => first | exact ⟨i + 1, by go_num, by omega, by omega, B8⟩ | ((repeat apply Exists.intro); exact ⟨⟨i + 1, by go_num, by omega, by omega, B8⟩, rfl⟩)
                case measure => simp [intOf]; omega
          · have B8 := hide (bmore HBW.out hbq.out)
            have g30' : ¬ ((i : Int) < 30) := by omega
            go_wp2
            go_ret
            exact ⟨rfl, B8.out⟩
        · have B8 := hide (bmore HBW.out hbq.out)
          have g2' : ¬ ((i : Int) < (n2 : Int)) := by omega
          go_wp2
          go_ret
          exact ⟨rfl, B8.out⟩

end Go.Proofs.Ytakpapgjdpnedaa.Clep
