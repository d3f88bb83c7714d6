/- What current and the manifest file read on a living Disk, behind a Save or a Rewrite that may have failed; Open of such where nothing fails. Up to 60 files, 250,000 bytes. -/
import Derived.Test.YtcahlmneancapaaGreatDoorFv29
import Derived.Test.YtcahlmneancapaaGreatDoorFv20
import Derived.BigRegion
import Derived.Deep.CutRange
import Derived.Deep.RegionWith
import Derived.Deep.CutBlock
import Derived.Test.YtcahlmneancapaaGreatDoorFv00
namespace Go.Proofs.YtcahlmneancapaaGreatDoor.Clep
open Go.RowKit Go.Maps Go.Sort
set_option linter.unusedVariables false
set_option maxRecDepth 10000

/-- The names as they are lead to a log that reads as V. -/
structure Lv (S : St) (T : Nat) (V : Vw) : Prop where
  dk : Dk S T
  low : 1 ≤ T
  top : lk S.names (mnm T) ≠ 0
  rd : ∃ n X L k, (1 ≤ n ∧ n < 100) ∧ Am leB S.files (lk S.names) n X L ∧ rpE X = some (V, k)
  nn : Vnn V
theorem Mp.lv {S : St} {T n : Nat} {l : List Ed} {L : Nat} {V : Vw} (h : Mp S T n l L V) : Lv S T V :=
  ⟨h.dk, h.low, h.top, by
    obtain ⟨x, hx⟩ := h.solo.all
    exact ⟨n, el l, L, _, h.solo.low, (hx _ h.dk.nm).2, (rpE_el h.eg h.ap h.pos).1⟩, h.nn⟩
theorem Lv.eqf {S S' : St} {T : Nat} {V : Vw} (h : Lv S T V) (e : Eqf S S') : Lv S' T V :=
  ⟨e.dk h.dk, h.low, by rw [e.names]; exact h.top, by rw [e.names, e.files]; exact h.rd, h.nn⟩
/-- A Save where a call may fail, and none dies. -/
theorem save_fail {S S' : St} {T n ph E1 : Nat} {l : List Ed} {V U : Vw} {E : Ed} (h : Mp S T n l (el l).length V) (hs : S.stop = 0) (hd : S.dead = false) (hE : Eg E) (ha : appl V E = some U) (hq : tot S + 1312 ≤ 250000) (hq2 : tot S + 1312 ≤ S.q) (e : saveS S (mnm n) (fr 6 (ebd E)) = (E1, ph, S')) :
    S'.stop = 0 ∧ S'.dead = false ∧ S'.calls ≤ S.calls + 2 ∧ tot S' ≤ tot S + 1312 ∧ S'.q = S.q ∧
    ((ph = 0 ∧ E1 = 15 ∧ Calm S' ∧ Mp S' T n l (el l).length V) ∨ (ph = 1 ∧ E1 = 15 ∧ Calm S' ∧ Lv S' T U) ∨ (ph = 2 ∧ E1 = 0 ∧ Mp S' T n (l ++ [E]) (el (l ++ [E])).length U)) := by
  obtain ⟨m, c, t, q, nm, r⟩ := mp_save h hE ha hq hq2 e
  obtain ⟨f1, f2, f3⟩ := m.fm hs hd
  refine ⟨f1, f2, c, t, q, ?_⟩
  rcases r with ⟨r1, r2, r3⟩ | ⟨r1, r2, r3⟩ | ⟨r1, r2, r3⟩
  · rcases f3 with f3 | ⟨f3, f4⟩
    · exact absurd f3 r2
    · exact .inl ⟨r1, f3, ⟨f1, f4, f2⟩, r3⟩
  · rcases f3 with f3 | ⟨f3, f4⟩
    · exact absurd f3 r2
    · exact .inr (.inl ⟨r1, f3, ⟨f1, f4, f2⟩, r3.lv⟩)
  · exact .inr (.inr ⟨r1, r2, r3⟩)
/-- A Rewrite where a call may fail, and none dies. -/
theorem rewrite_fail {S S' : St} {T n ph E1 : Nat} {l : List Ed} {V : Vw} (h : Mp S T n l (el l).length V) (hs : S.stop = 0) (hd : S.dead = false) (h6 : T + 1 ≤ 60) (hq : tot S + 1334 ≤ 250000) (hq2 : tot S + 1334 ≤ S.q) (e : renewS S (nextS S) (whB V) (leB (nextS S)) = (E1, ph, S')) :
    nextS S = T + 1 ∧ S'.stop = 0 ∧ S'.dead = false ∧ S'.calls ≤ S.calls + 100 ∧ tot S' ≤ tot S + 1334 ∧ S'.q = S.q ∧
    ((ph = 0 ∧ E1 = 15 ∧ Calm S' ∧ ∃ T1, T1 ≤ T + 1 ∧ Mp S' T1 n l (el l).length V) ∨ (ph = 1 ∧ E1 = 15 ∧ Calm S' ∧ Lv S' (T + 1) V) ∨ (ph = 2 ∧ E1 = 0 ∧ Mp S' (T + 1) (T + 1) [wholeE V] (el [wholeE V]).length V)) := by
  obtain ⟨hn, m, c, t, q, r⟩ := mp_renew h hd h6 hq hq2 e
  obtain ⟨f1, f2, f3⟩ := m.fm hs hd
  refine ⟨hn, f1, f2, c, t, q, ?_⟩
  rcases r with ⟨r1, r2, r3⟩ | ⟨r1, r2, r3, r4, r5⟩ | ⟨r1, r2, r3, r4⟩
  · rcases f3 with f3 | ⟨f3, f4⟩
    · exact absurd f3 r2
    · exact .inl ⟨r1, f3, ⟨f1, f4, f2⟩, r3⟩
  · rcases f3 with f3 | ⟨f3, f4⟩
    · exact absurd f3 r2
    · exact .inr (.inl ⟨r1, f3, ⟨f1, f4, f2⟩, r3, by omega, (at_fl r3 r4).2.1, ⟨T + 1, whB V, _, _, ⟨by omega, by omega⟩, r4, whB_rd h.vok h.nn⟩, h.nn⟩)
  · exact .inr (.inr ⟨r1, r2, r3⟩)
/-- Open of what reads so, where nothing fails. -/
theorem kd_open_lv {K : Nat → Prop} {w : World} {R T : Nat} {S : St} {V : Vw} (h : Kd K w R S) (P : Lv S T V) (hc : Calm S) (h6 : T + 1 ≤ 60) (hq : tot S + 1334 ≤ 250000) (hq2 : tot S + 1334 ≤ S.q) (hm : S.calls < 68719476736) :
    Calls Tryz.prog 12 #[.pointer (some ⟨R, 0, none⟩)] w fun e w' => Same K w w' ∧ ∃ M n' c' S', e = .returned (.tuple #[.pointer (some ⟨M, 0, none⟩), .int .i64 0]) ∧ Km K w' M R n' c' V false S' := by
  obtain ⟨n, X, L, k, hn, ⟨g, f, a1, a2, a3, a4, a5, a6⟩, hr⟩ := P.rd
  have r1 := readS_at P.dk hc.2.2 okCur a1
  have r2 := readS_at P.dk hc.2.2 (mnm_okAll n hn.2).1 a4
  rw [a2] at r1
  rw [a5] at r2
  refine (kd_open_read h P.dk P.top hc r1 (ldP_leB hn.1 hn.2) hn.1 hn.2 r2 hr P.nn h6 hq hq2 hm).mono ?_
  rintro e w' ⟨s, M, n', c', S', rfl, km, -⟩
  exact ⟨s, M, n', c', S', rfl, km⟩

end Go.Proofs.YtcahlmneancapaaGreatDoor.Clep

/- A Manifest whose Disk another one was opened on: it tells as before whether it is broken. No conditions. -/
namespace Go.Proofs.YtcahlmneancapaaGreatDoor.Clep
open Go.RowKit Go.Maps Go.Sort
set_option linter.unusedVariables false
set_option maxRecDepth 10000

/-- A Manifest's block tells whether it is broken. -/
def Mbk (w : World) (M : Nat) (br : Bool) : Prop := ∃ cs T, Ek w M cs T ∧ cs[12]? = some (.bool br)
theorem Mbk.below {w w' : World} {M : Nat} {br : Bool} (h : Mbk w M br) (hb : Below w.heap.size w w') : Mbk w' M br := by
  obtain ⟨cs, T, h1, h2⟩ := h
  exact ⟨cs, T, h1.keep hb, h2⟩
theorem Mbk.same {K : Nat → Prop} {w w' : World} {M : Nat} {br : Bool} (h : Mbk w M br) (hs : Same K w w') (hK : K M) : Mbk w' M br := by
  obtain ⟨cs, T, h1, h2⟩ := h
  exact ⟨cs, T, h1.same hs hK, h2⟩
theorem Km.mbk {K : Nat → Prop} {w : World} {M R n c : Nat} {V : Vw} {br : Bool} {S : St} (h : Km K w M R n c V br S) : Mbk w M br ∧ Kd (fun i => K i ∨ i = M) w R S := by
  obtain ⟨F, m, hF⟩ := h.ma
  refine ⟨?_, F, m.held, fun i hi => hi.elim (hF i) (fun e => by rw [e]; exact m.own)⟩
  obtain ⟨a, fc, h1, -⟩ := m.blk
  exact ⟨_, _, h1, rfl⟩
theorem mbk_broken {w : World} {M : Nat} {br : Bool} (h : Mbk w M br) : Calls Tryz.prog 30 #[.pointer (some ⟨M, 0, none⟩)] w fun e w' => e = .returned (.bool br) ∧ w' = w := by
  obtain ⟨cs, T, h1, h2⟩ := h
  have c1 : w.cell? ⟨M, 12, none⟩ = some (.bool br) := h1.cell h2
  clear h1 h2
  go_enter Tryz.func30, Tryz.ntmps30
  go_wp2
  go_ret
  exact ⟨rfl, rfl⟩

end Go.Proofs.YtcahlmneancapaaGreatDoor.Clep

/- What ManFails holds while Edits are Saved and a call may fail. No conditions. -/
namespace Go.Proofs.YtcahlmneancapaaGreatDoor.Clep
open Go.RowKit Go.Maps Go.Sort
set_option linter.unusedVariables false
set_option maxRecDepth 10000

/-- While Edits are Saved: i so far, a call may fail; how far the Disk is used. -/
structure FlL (we W : World) (M R : Nat) (gs : List Er) (i : Nat) (S : St) (T tb ub cb : Nat) : Prop where
  live : ∃ n l c V, Mp S T n l (el l).length V ∧ Vk gs i V ∧ Km (fun k => k < we.heap.size) W M R n c V false S ∧ c ≤ i + 1
  st : S.stop = 0
  dd : S.dead = false
  q : S.q = 1048576
  tot : tot S ≤ tb
  t : T ≤ ub
  calls : S.calls ≤ cb
  bel : Below we.heap.size we W
theorem FlL.below {we W W' : World} {M R : Nat} {gs : List Er} {i : Nat} {S : St} {T tb ub cb : Nat} (h : FlL we W M R gs i S T tb ub cb) (hb : Below W.heap.size W W') : FlL we W' M R gs i S T tb ub cb := by
  obtain ⟨n, l, c, V, a, b, k, d⟩ := h.live
  exact ⟨⟨n, l, c, V, a, b, k.below hb, d⟩, h.st, h.dd, h.q, h.tot, h.t, h.calls, h.bel.trans (hb.mono h.bel.size)⟩
theorem FlL.mono {we W : World} {M R : Nat} {gs : List Er} {i : Nat} {S : St} {T tb ub cb tb' ub' cb' : Nat} (h : FlL we W M R gs i S T tb ub cb) (h1 : tb ≤ tb') (h2 : ub ≤ ub') (h3 : cb ≤ cb') : FlL we W M R gs i S T tb' ub' cb' :=
  ⟨h.live, h.st, h.dd, h.q, Nat.le_trans h.tot h1, Nat.le_trans h.t h2, Nat.le_trans h.calls h3, h.bel⟩
/-- Behind them: n told as Saved; broken or not. -/
structure FlX (we W : World) (M R : Nat) (gs : List Er) (n : Nat) (S : St) (T : Nat) (br : Bool) : Prop where
  km : ∃ n' c V, Km (fun k => k < we.heap.size) W M R n' c V br S
  lv : ∃ V, Lv S T V ∧ (Vk gs n V ∨ (br = true ∧ Vk gs (n + 1) V))
  st : S.stop = 0
  dd : S.dead = false
  q : S.q = 1048576
  tot : tot S ≤ 200000
  t : T ≤ 50
  calls : S.calls ≤ 20000
  bel : Below we.heap.size we W
theorem flx_of {we W : World} {M R : Nat} {gs : List Er} {i : Nat} {S : St} {T : Nat} (h : FlL we W M R gs i S T (3000 + 3958 * i) (i + 1) (1000 + 200 * i)) (hi : i ≤ 45) : FlX we W M R gs i S T false := by
  obtain ⟨n, l, c, V, a, b, k, -⟩ := h.live
  have h1 := h.tot
  have h2 := h.t
  have h3 := h.calls
  exact ⟨⟨n, c, V, k⟩, ⟨V, a.lv, .inl b⟩, h.st, h.dd, h.q, by omega, by omega, by omega, h.bel⟩

end Go.Proofs.YtcahlmneancapaaGreatDoor.Clep

/- ManFails behind its loop: what is opened anew is the View ahead or the one under way, walked. No conditions. Written by wip/tools/gen16failtail.py. -/
namespace Go.Proofs.YtcahlmneancapaaGreatDoor.Clep
open Go.RowKit Go.Maps Go.Sort
set_option linter.unusedVariables false

/-- What follows the block of ManFails' loop. -/
def rest8F : Option Code → Code
  | some (.seq _ (.seq _ (.seq _ (.seq _ (.seq _ (.seq _ (.seq _ (.seq _ r)))))))) => r
  | _ => .skip
set_option maxRecDepth 100000 in
set_option maxHeartbeats 16000000 in
theorem failstail_any (w we wc : World) (M R : Nat) (gs : List Er) (vs : List Vr) (x : Vr) (av : Option Addr) (cv : Nat) (HBE : Hid (Below w.heap.size w we)) (HVD : Hid (Vd we (.slice av vs.length cv) vs)) (HCQ : Hid (Cq gs vs x)) (hg45 : gs.length ≤ 45) (NX : Nat) (SX : St) (TX : Nat) (br : Bool) (hnx : NX ≤ gs.length) (HX : Hid (FlX we wc M R gs NX SX TX br))
    (t0 t1 t2 t3 t4 t5 t6 t7 t9 t12 t14 t15 t16 t17 t18 t19 t20 t21 t22 t23 t24 t25 t26 t27 t28 t29 t30 t31 t32 t33 t34 t35 t36 t37 t38 t39 t40 t41 t42 t43 t44 t45 t46 t47 t48 t49 t50 t51 t52 t53 t54 t55 t56 t57 t58 t59 t60 t61 t62 t63 t64 t65 t66 t67 t68 t69 t70 t71 t72 t73 t74 t75 t76 t77 t78 t79 t80 t81 t82 t83 t84 t85 t86 t87 t88 t89 t90 t91 t92 t93 t94 t95 t96 t97 t98 t99 t100 t101 t102 t103 t104 t105 t106 t107 t108 t109 t110 t111 t112 t113 t114 t115 t116 t117 t118 t119 t120 t121 t122 t123 t124 t125 t126 t127 t128 t129 t130 t131 t132 t133 t134 t135 t136 t137 t138 t139 t140 t141 t142 t143 t144 t145 t146 t147 t148 t149 t150 t151 t152 t153 t154 t155 t156 t157 t158 t159 t160 t161 t162 t163 t164 t165 t166 t167 t168 t169 t170 t171 t172 t173 t174 t175 t176 t177 t178 t179 : Value) :
    Code.wp Tryz.prog (rest8F Tryz.f8.body) (bodyPost Tryz.prog Tryz.f8 fun e w' => e = .returned (.bool true) ∧ Below w.heap.size w w') ⟨#[t0, t1, t2, t3, t4, t5, t6, t7, .slice av vs.length cv, t9, .pointer (some ⟨R, 0, none⟩), .pointer (some ⟨M, 0, none⟩), t12, .int .i64 (NX : Nat), t14, t15, t16, t17, t18, t19, t20, t21, t22, t23, t24, t25, t26, t27, t28, t29, t30, t31, t32, t33, t34, t35, t36, t37, t38, t39, t40, t41, t42, t43, t44, t45, t46, t47, t48, t49, t50, t51, t52, t53, t54, t55, t56, t57, t58, t59, t60, t61, t62, t63, t64, t65, t66, t67, t68, t69, t70, t71, t72, t73, t74, t75, t76, t77, t78, t79, t80, t81, t82, t83, t84, t85, t86, t87, t88, t89, t90, t91, t92, t93, t94, t95, t96, t97, t98, t99, t100, t101, t102, t103, t104, t105, t106, t107, t108, t109, t110, t111, t112, t113, t114, t115, t116, t117, t118, t119, t120, t121, t122, t123, t124, t125, t126, t127, t128, t129, t130, t131, t132, t133, t134, t135, t136, t137, t138, t139, t140, t141, t142, t143, t144, t145, t146, t147, t148, t149, t150, t151, t152, t153, t154, t155, t156, t157, t158, t159, t160, t161, t162, t163, t164, t165, t166, t167, t168, t169, t170, t171, t172, t173, t174, t175, t176, t177, t178, t179], []⟩ wc := by
  obtain ⟨Q', hQ'⟩ : ∃ Q', Q' = bodyPost Tryz.prog Tryz.f8 fun e w' => e = .returned (.bool true) ∧ Below w.heap.size w w' := ⟨_, rfl⟩
  rw [← hQ']
  dsimp only [rest8F, Tryz.f8]
  subst hQ'
  have AW := hide (fun W => mawake_any W)
  obtain ⟨nx, cx, VX, kx⟩ := HX.out.km
  have FA := hide (km_fail 0 (by decide) kx)
  obtain ⟨VL, lvx, hvx⟩ := HX.out.lv
  have x1 := HX.out.tot
  have x2 := HX.out.t
  have x3 := HX.out.calls
  have x4 := HX.out.q
  have xe := eqf_fail SX 0
  have CX : Calm { SX with fail := 0 } := ⟨HX.out.st, rfl, HX.out.dd⟩
  have HCX := hide CX
  have LX := hide (lvx.eqf xe)
  have xt := xe.tot
  have BX := hide HX.out.bel
  have HVX := hide hvx
  clear kx lvx hvx xe CX HX
  go_wp2_with fail
  refine FA.out.mono ?_
  rintro e wa ⟨rfl, ka, sa⟩
  have BA := hide (BX.out.trans (sa.below (B := we.heap.size) (fun j hj => hj)))
  have BR := hide (km_broken ka)
  have KA := hide ka
  clear FA ka sa BX
  go_upto_region 28 with fail
  go_cut [137] from 123 to 179 (fun s137 wx => s137 = .bool false ∧ Hid (Km (fun k => k < we.heap.size) wx M R nx cx VX br { SX with fail := 0 }) ∧ Hid (Below we.heap.size we wx))
  case first =>
    clear LX HVX
    cases br with
    | false =>
      go_wp2_with fail
      refine BR.out.mono ?_
      rintro e wb ⟨rfl, rfl⟩
      clear BR
      go_wp2_with fail
      go_meet
      case rel => exact ⟨by first | trivial | rfl, KA, BA⟩
    | true =>
      go_wp2_with fail
      refine BR.out.mono ?_
      rintro e wb ⟨rfl, rfl⟩
      have SB := hide (km_save_broken KA.out none none 0 0 0 0 (flE 9))
      unfold edV flE at SB
      clear BR
      go_wp2_with fail
      refine SB.out.mono ?_
      rintro e wc ⟨rfl, kc, hbc⟩
      have RB := hide (km_rewrite_broken kc)
      have BC := hide (BA.out.trans (hbc.mono BA.out.size))
      have KC := hide kc
      clear SB kc hbc
      go_wp2_with fail
      refine RB.out.mono ?_
      rintro e wd ⟨rfl, rfl⟩
      clear RB
      go_wp2_with fail
      go_meet
      case rel => exact ⟨by first | trivial | rfl, KC, BC⟩
  case rest =>
    obtain ⟨rfl, KQ, BQ⟩ := hcut
    clear KA BA BR
    obtain ⟨hmb, hkd⟩ := KQ.out.mbk
    have OP := hide (kd_open_lv hkd LX.out HCX.out (by omega) (by rw [xt]; omega) (by rw [xt]; show _ ≤ SX.q; omega) (by show SX.calls < _; omega))
    have MB := hide hmb
    clear KQ hmb hkd
    go_wp2_with fail
    refine OP.out.mono ?_
    rintro e wf ⟨sf, Mf, nf, cf, Sf, rfl, kf⟩
    have MF := hide (MB.out.same sf (.inr rfl))
    have BF := hide (BQ.out.trans (sf.below (B := we.heap.size) (fun j hj => .inl hj)))
    have hv40 : VL.f.length ≤ 100000 := by
      obtain ⟨_, _, _, _, _, _, hr⟩ := LX.out.rd
      have := (good_once (.inr (rpE_le hr).2.2)).2
      omega
    have VW := hide (km_view kf hv40)
    obtain ⟨NV, hNV⟩ : ∃ n, VL.f.length = n := ⟨_, rfl⟩
    unfold vwV at VW
    rw [hNV] at VW
    have hnv : NV ≤ 9223372036854775807 := by omega
    clear OP kf sf MB LX HCX xt
    go_wp2_with fail
    refine VW.out.mono ?_
    rintro e wg ⟨a6, c6, rfl, hc6, f6, -, hb6⟩
    have BG := hide (BF.out.trans (hb6.mono BF.out.size))
    have FG := hide f6
    have MG := hide (MF.out.below hb6)
    clear VW hb6 f6 MF BF
    go_upto_region 34 with fail
    obtain ⟨Bz, hBz⟩ : ∃ b, wg.heap.size = b := ⟨_, rfl⟩
    obtain ⟨wz, hwz⟩ : ∃ x, wg.alloc (Obj.cells #[.int .i64 VL.lg, .slice a6 NV c6, .int .u64 VL.fl, .int .u64 VL.ct, .int .u64 VL.at9, .int .u64 VL.ls] 31) = x := ⟨_, rfl⟩
    have hA := (Below.refl _ wg).alloc (Nat.le_refl _) (Obj.cells #[.int .i64 VL.lg, .slice a6 NV c6, .int .u64 VL.fl, .int .u64 VL.ct, .int .u64 VL.at9, .int .u64 VL.ls] 31)
    have hkz := ek_new wg #[.int .i64 VL.lg, .slice a6 NV c6, .int .u64 VL.fl, .int .u64 VL.ct, .int .u64 VL.at9, .int .u64 VL.ls] 31
    rw [hwz] at hA hkz
    rw [hBz] at hkz
    have bz : Below we.heap.size we wz := BG.out.trans (hA.mono BG.out.size)
    have BZ := hide (HBE.out.trans (bz.mono HBE.out.size))
    have hfz := FG.out.below hA (Nat.le_refl _)
    have hmz := MG.out.below hA
    obtain ⟨av', cv', e1, hvc⟩ := HVD.out.below bz
    injection e1 with e1 e2 e3
    subst e1 e3
    have hlen := HCQ.out.len
    obtain ⟨y0, hy0⟩ : ∃ y, vs[NX]? = some y := ⟨_, List.getElem?_eq_getElem (by omega)⟩
    obtain ⟨hyf, hyc, g0, rfl, hcell⟩ := hvc NX y0 hy0
    have hyl : y0.V.f.length ≤ 9223372036854775807 := by have := hyf.1; have := hyf.2.1.1; omega
    have p0 : ∀ q : Kp wz, q.W.cell? ⟨Bz, 0, none⟩ = some (.int .i64 VL.lg) := fun q => (hkz.below q.h hkz.lt).cell rfl
    have p1 : ∀ q : Kp wz, q.W.cell? ⟨Bz, 1, none⟩ = some (.slice a6 NV c6) := fun q => (hkz.below q.h hkz.lt).cell rfl
    have p2 : ∀ q : Kp wz, q.W.cell? ⟨Bz, 2, none⟩ = some (.int .u64 VL.fl) := fun q => (hkz.below q.h hkz.lt).cell rfl
    have p3 : ∀ q : Kp wz, q.W.cell? ⟨Bz, 3, none⟩ = some (.int .u64 VL.ct) := fun q => (hkz.below q.h hkz.lt).cell rfl
    have p4 : ∀ q : Kp wz, q.W.cell? ⟨Bz, 4, none⟩ = some (.int .u64 VL.at9) := fun q => (hkz.below q.h hkz.lt).cell rfl
    have p5 : ∀ q : Kp wz, q.W.cell? ⟨Bz, 5, none⟩ = some (.int .u64 VL.ls) := fun q => (hkz.below q.h hkz.lt).cell rfl
    have hkeep : ∀ (q : Kp wz) (a : Addr) (u : Value), wz.cell? a = some u → q.W.cell? a = some u := fun q a u h => (q.h.cell (p := a) (World.block_lt_of_cell? wz _ h)).trans h
    have v0 : ∀ q : Kp wz, q.W.cell? ⟨g0, NX * 6, none⟩ = some (.int .i64 y0.V.lg) := fun q => hkeep q _ _ (hcell 0 _ rfl)
    have v1 : ∀ q : Kp wz, q.W.cell? ⟨g0, NX * 6 + 1, none⟩ = some (.slice y0.a y0.V.f.length y0.c) := fun q => hkeep q _ _ (hcell 1 _ rfl)
    have v2 : ∀ q : Kp wz, q.W.cell? ⟨g0, NX * 6 + 2, none⟩ = some (.int .u64 y0.V.fl) := fun q => hkeep q _ _ (hcell 2 _ rfl)
    have v3 : ∀ q : Kp wz, q.W.cell? ⟨g0, NX * 6 + 3, none⟩ = some (.int .u64 y0.V.ct) := fun q => hkeep q _ _ (hcell 3 _ rfl)
    have v4 : ∀ q : Kp wz, q.W.cell? ⟨g0, NX * 6 + 4, none⟩ = some (.int .u64 y0.V.at9) := fun q => hkeep q _ _ (hcell 4 _ rfl)
    have v5 : ∀ q : Kp wz, q.W.cell? ⟨g0, NX * 6 + 5, none⟩ = some (.int .u64 y0.V.ls) := fun q => hkeep q _ _ (hcell 5 _ rfl)
    have qx : (0 : Int) ≤ ((NX : Nat) : Int) ∧ ((NX : Nat) : Int) < (vs.length : Int) := ⟨by omega, by omega⟩
    have ca : Hid (∀ p : Kp wz, Calls Tryz.prog 17 #[] p.W fun e w'' => e = .returned (.bool true) ∧ ∃ q : Kp wz, w'' = q.W) := hide fun p => kp_call (AW.out p.W)
    have hne : Nonempty (Kp wz) := ⟨⟨_, Below.refl _ _⟩⟩
    try rw [hBz]
    try rw [hwz]
    have HLEN := hide hlen
    clear hlen
    by_cases hVe : VL = y0.V
    · have cs : Hid (∀ p : Kp wz, Calls Tryz.prog 14 #[.agg #[.int .i64 VL.lg, .slice a6 NV c6, .int .u64 VL.fl, .int .u64 VL.ct, .int .u64 VL.at9, .int .u64 VL.ls], .agg #[.int .i64 y0.V.lg, .slice y0.a y0.V.f.length y0.c, .int .u64 y0.V.fl, .int .u64 y0.V.ct, .int .u64 y0.V.at9, .int .u64 y0.V.ls]] p.W fun e w'' => e = .returned (.bool true) ∧ ∃ q : Kp wz, w'' = q.W) := hide fun p => kp_call ((sameview_any a6 y0.a NV c6 y0.V.f.length y0.c VL y0.V p.W (hfz.below p.h (Nat.le_refl _)) (hyf.below p.h (Nat.le_refl _)) hnv hyl).mono fun e w' ⟨o, h1, h2, h3⟩ => by rw [h2.2 hVe] at h1; exact ⟨h1, h3⟩)
      clear hkz hfz hvc hyf hyc hcell hA bz hkeep hwz hBz hmz BG FG MG HVX hVe hy0 hNV
      refine wp_region_kept (by kernel_rfl) (by kernel_rfl) ?_
      repeat (first
        | go_big_quiet_step (first | (go_at_call 17; exact ca.out _) | (go_at_call 14; exact cs.out _))
        | fail)
      refine wpQuiet_nil ?_
      intro w10 hw'
      have hb10 : Below wz.heap.size wz w10 := by
        obtain ⟨⟨w3', hb3⟩, hw''⟩ := hw'
        rw [hw'']; exact hb3
      have HBN := hide (BZ.out.trans (hb10.mono BZ.out.size))
      clear hw' hne ca cs hb10 p0 p1 p2 p3 p4 p5 v0 v1 v2 v3 v4 v5 AW
      go_wp2
      go_ret
      exact ⟨rfl, HBN.out⟩
    · obtain ⟨rfl, hvk1⟩ : br = true ∧ Vk gs (NX + 1) VL := by
        rcases HVX.out with h | h
        · exact absurd (h.at' HCQ.out hy0) hVe
        · exact h
      have hnx1 := hvk1.1
      obtain ⟨N1, hN1⟩ : ∃ k, k = NX + 1 := ⟨_, rfl⟩
      obtain ⟨y1, hy1⟩ : ∃ y, vs[N1]? = some y := ⟨_, List.getElem?_eq_getElem (by have := HLEN.out; omega)⟩
      obtain ⟨hzf, hzc, g1, eg1, hcell1⟩ := hvc N1 y1 hy1
      injection eg1 with eg1
      injection eg1 with eg1 _ _
      subst eg1
      have hzl : y1.V.f.length ≤ 9223372036854775807 := by have := hzf.1; have := hzf.2.1.1; omega
      have hV1 : VL = y1.V := hvk1.at' HCQ.out (by rw [← hN1]; exact hy1)
      have eN1 : (NX : Int) + 1 = (N1 : Int) := by omega
      have t0 : ∀ q : Kp wz, q.W.cell? ⟨g0, N1 * 6, none⟩ = some (.int .i64 y1.V.lg) := fun q => hkeep q _ _ (hcell1 0 _ rfl)
      have t1 : ∀ q : Kp wz, q.W.cell? ⟨g0, N1 * 6 + 1, none⟩ = some (.slice y1.a y1.V.f.length y1.c) := fun q => hkeep q _ _ (hcell1 1 _ rfl)
      have t2 : ∀ q : Kp wz, q.W.cell? ⟨g0, N1 * 6 + 2, none⟩ = some (.int .u64 y1.V.fl) := fun q => hkeep q _ _ (hcell1 2 _ rfl)
      have t3 : ∀ q : Kp wz, q.W.cell? ⟨g0, N1 * 6 + 3, none⟩ = some (.int .u64 y1.V.ct) := fun q => hkeep q _ _ (hcell1 3 _ rfl)
      have t4 : ∀ q : Kp wz, q.W.cell? ⟨g0, N1 * 6 + 4, none⟩ = some (.int .u64 y1.V.at9) := fun q => hkeep q _ _ (hcell1 4 _ rfl)
      have t5 : ∀ q : Kp wz, q.W.cell? ⟨g0, N1 * 6 + 5, none⟩ = some (.int .u64 y1.V.ls) := fun q => hkeep q _ _ (hcell1 5 _ rfl)
      have qy : (0 : Int) ≤ ((N1 : Nat) : Int) ∧ ((N1 : Nat) : Int) < (vs.length : Int) := ⟨by omega, by have := HLEN.out; omega⟩
      have cs : Hid (∀ p : Kp wz, Calls Tryz.prog 14 #[.agg #[.int .i64 VL.lg, .slice a6 NV c6, .int .u64 VL.fl, .int .u64 VL.ct, .int .u64 VL.at9, .int .u64 VL.ls], .agg #[.int .i64 y0.V.lg, .slice y0.a y0.V.f.length y0.c, .int .u64 y0.V.fl, .int .u64 y0.V.ct, .int .u64 y0.V.at9, .int .u64 y0.V.ls]] p.W fun e w'' => e = .returned (.bool false) ∧ ∃ q : Kp wz, w'' = q.W) := hide fun p => kp_call ((sameview_any a6 y0.a NV c6 y0.V.f.length y0.c VL y0.V p.W (hfz.below p.h (Nat.le_refl _)) (hyf.below p.h (Nat.le_refl _)) hnv hyl).mono fun e w' ⟨o, h1, h2, h3⟩ => by
        cases o with
        | true => exact absurd (h2.1 rfl) hVe
        | false => exact ⟨h1, h3⟩)
      have ct : Hid (∀ p : Kp wz, Calls Tryz.prog 14 #[.agg #[.int .i64 VL.lg, .slice a6 NV c6, .int .u64 VL.fl, .int .u64 VL.ct, .int .u64 VL.at9, .int .u64 VL.ls], .agg #[.int .i64 y1.V.lg, .slice y1.a y1.V.f.length y1.c, .int .u64 y1.V.fl, .int .u64 y1.V.ct, .int .u64 y1.V.at9, .int .u64 y1.V.ls]] p.W fun e w'' => e = .returned (.bool true) ∧ ∃ q : Kp wz, w'' = q.W) := hide fun p => kp_call ((sameview_any a6 y1.a NV c6 y1.V.f.length y1.c VL y1.V p.W (hfz.below p.h (Nat.le_refl _)) (hzf.below p.h (Nat.le_refl _)) hnv hzl).mono fun e w' ⟨o, h1, h2, h3⟩ => by rw [h2.2 hV1] at h1; exact ⟨h1, h3⟩)
      have cb : Hid (∀ p : Kp wz, Calls Tryz.prog 30 #[.pointer (some ⟨M, 0, none⟩)] p.W fun e w'' => e = .returned (.bool true) ∧ ∃ q : Kp wz, w'' = q.W) := hide fun p => kp_same (mbk_broken (hmz.below p.h))
      have HN1 := hide hN1
      clear hkz hfz hvc hyf hyc hcell hA bz hkeep hwz hBz hmz BG FG MG HVX hzf hzc hcell1 hvk1 hN1 hy0 hy1 hVe hV1 hNV
      refine wp_region_kept (by kernel_rfl) (by kernel_rfl) ?_
      repeat (first
        | go_big_quiet_step (first | (go_at_call 17; exact ca.out _) | (go_at_call 30; exact cb.out _) | (go_at_call_of 14 y0.V; exact cs.out _) | (go_at_call_of 14 y1.V; exact ct.out _))
        | fail)
      refine wpQuiet_nil ?_
      intro w10 hw'
      have hb10 : Below wz.heap.size wz w10 := by
        obtain ⟨⟨w3', hb3⟩, hw''⟩ := hw'
        rw [hw'']; exact hb3
      have HBN := hide (BZ.out.trans (hb10.mono BZ.out.size))
      clear hw' hne ca cs ct cb hb10 p0 p1 p2 p3 p4 p5 v0 v1 v2 v3 v4 v5 t0 t1 t2 t3 t4 t5 AW
      go_wp2
      go_ret
      exact ⟨rfl, HBN.out⟩


end Go.Proofs.YtcahlmneancapaaGreatDoor.Clep

/- The statement ManFails: it answers true (a walk over the translated program). No conditions. -/
namespace Go.Proofs.YtcahlmneancapaaGreatDoor.Clep
open Go.RowKit Go.Maps Go.Sort
set_option linter.unusedVariables false
set_option maxRecDepth 10000

set_option maxHeartbeats 16000000 in
theorem manfails_any (a0 : Option Addr) (len0 cap0 : Nat) (ls : List Er) (at0 rw0 : Int) (w : World) (h0 : Es w a0 len0 cap0 ls) (hl0 : len0 ≤ 9223372036854775807) :
    Calls Tryz.prog 8 #[.slice a0 len0 cap0, .int .i64 at0, .int .i64 rw0] w fun e w' => e = .returned (.bool true) ∧ Below w.heap.size w w' := by
  obtain ⟨S1, N1⟩ := newOk_one 1048576 (by decide)
  have P1 := mp_new N1 vok_one one_nn
  have HN1 := hide N1
  have HP1 := hide P1
  have HO := hide (fun W (hW : Below w.heap.size w W) (y : Er) (hy : y ∈ ls) => (h0.2.2.1 y hy).below hW (Nat.le_refl _))
  have ED := hide (edits_any a0 len0 cap0 ls w (fun W hW => h0.below hW (Nat.le_refl _)) hl0)
  have AW := hide (fun W => mawake_any W)
  clear N1 P1 h0
  go_enter Tryz.func8, Tryz.ntmps8
  go_wp2_with fail
  refine ED.out.mono ?_
  rintro e we ⟨hbe, hcase⟩
  have ND := hide (kd_new 1048576 we (by decide) 1048576 rfl)
  have HBE := hide hbe
  clear hbe ED
  rcases hcase with rfl | ⟨v6, v7, x, vs, gs, rfl, hcg, hcq, hgl, hg45⟩
  · go_wp2_with fail
    refine ND.out.mono ?_
    rintro e w1 ⟨R, rfl, D1, s1⟩
    have NM := hide (km_new none 0 0 oneV D1 (fs_nil w1) (by decide) vok_one one_nn HN1.out)
    have b1 := hide (s1.below (B := we.heap.size) (fun j hj => hj))
    unfold vwV oneV at NM
    clear ND D1 s1
    go_wp2_with fail
    refine NM.out.mono ?_
    rintro e w2 ⟨M, rfl, -, s2, -⟩
    have b2 := hide (b1.out.trans (s2.below (B := we.heap.size) (fun j hj => hj)))
    clear NM s2
    go_wp2_with fail
    refine (AW.out w2).mono ?_
    rintro e w3 ⟨rfl, hb3⟩
    have b3 := hide (HBE.out.trans ((b2.out.trans (hb3.mono b2.out.size)).mono HBE.out.size))
    clear hb3 AW
    go_wp2
    go_ret
    exact ⟨rfl, b3.out⟩
  · obtain ⟨hgd, hvd⟩ := gd_of hcg hcq hgl (fun y hy => HO.out we HBE.out y hy)
    have HGD := hide hgd
    have HVD := hide hvd
    have HCQ := hide hcq
    obtain ⟨ag, cg, eg, -⟩ := hgd
    obtain ⟨av, cv, ev, -⟩ := hvd
    subst eg ev
    clear hcg hgl
    go_wp2_with fail
    refine ND.out.mono ?_
    rintro e w1 ⟨R, rfl, D1, s1⟩
    have NM := hide (km_new none 0 0 oneV D1 (fs_nil w1) (by decide) vok_one one_nn HN1.out)
    have b1 := hide (s1.below (B := we.heap.size) (fun j hj => hj))
    unfold vwV oneV at NM
    clear ND D1 s1
    go_wp2_with fail
    refine NM.out.mono ?_
    rintro e w2 ⟨M, rfl, k2, s2, -⟩
    have b2 := hide (b1.out.trans (s2.below (B := we.heap.size) (fun j hj => hj)))
    clear NM s2
    have c1 : (0 : Int) ≤ bits .and .i64 at0 63 := (andi at0 63 (by decide)).1
    have c2 : bits .and .i64 at0 63 ≤ 63 := (andi at0 63 (by decide)).2
    obtain ⟨n0, hn0⟩ : ∃ n0 : Nat, bits .and .i64 at0 63 + 1 = (n0 : Int) := ⟨(bits .and .i64 at0 63 + 1).toNat, by omega⟩
    have hn127 : n0 ≤ 127 := by omega
    have ST := hide (km_fail n0 (by omega) k2)
    clear k2 c1 c2
    go_upto_region 6 with fail
    go_wp2_with fail
    refine ST.out.mono ?_
    rintro e w3 ⟨rfl, k3, s3⟩
    have b3 := b2.out.trans (s3.below (B := we.heap.size) (fun j hj => hj))
    have S0 := hide (show FlL we w3 M R gs 0 { S1 with fail := n0 } 1 (3000 + 3958 * 0) (0 + 1) (1000 + 200 * 0) from by
      have h1 := one_len
      have h2 := leB_len 1
      have ht := HN1.out.tot
      have hcl := HN1.out.calls
      have e0 := eqf_fail S1 n0
      exact ⟨⟨_, _, _, _, HP1.out.eqf e0, vk_zero gs, k3, by omega⟩, HN1.out.calm.1, HN1.out.calm.2.2, HN1.out.q, by rw [e0.tot]; omega, by omega, by show S1.calls ≤ _; omega, b3⟩)
    clear ST k3 s3 b3 HN1 HP1 b1 b2
    go_upto_block 0 with fail
    go_cut [13] from 53 to 122 (fun s13 wx => ∃ (n : Nat) (S : St) (T : Nat) (br : Bool), n ≤ gs.length ∧ s13 = .int .i64 (n : Nat) ∧ Hid (FlX we wx M R gs n S T br))
    case first =>
      clear AW
      go_wp2_with fail
      go_loopw [13, 14] (fun s13 s14 wr => ∃ (i : Nat) (S : St) (T : Nat), i ≤ gs.length ∧ s13 = .int .i64 (i : Nat) ∧ s14 = .int .i64 (i : Nat) ∧ Hid (FlL we wr M R gs i S T (3000 + 3958 * i) (i + 1) (1000 + 200 * i))) (fun _ t _ => gs.length - (intOf t).toNat)
      case atStart => exact ⟨0, _, 1, by omega, rfl, rfl, S0⟩
      case round =>
        obtain ⟨i, S, T, hi, rfl, rfl, hst⟩ := hrel
        clear S0
        by_cases hlt : i < gs.length
        · have q1 : (i : Int) < (gs.length : Int) := by omega
          obtain ⟨n, l, c, V, hmp, hvk, hkm, hc1⟩ := hst.out.live
          obtain ⟨ag', cg', e1, hg⟩ := HGD.out.below hst.out.bel
          injection e1 with e1 e2 e3
          subst e1 e3
          obtain ⟨y, hy⟩ : ∃ y, gs[i]? = some y := ⟨_, List.getElem?_eq_getElem hlt⟩
          obtain ⟨hyo, hyg, g, rfl, hcell⟩ := hg i y hy
          obtain ⟨U, hap, hvk'⟩ := hvk.next hy HCQ.out
          have d0 := hcell 0 _ rfl
          have d1 := hcell 1 _ rfl
          have d2 := hcell 2 _ rfl
          have d3 := hcell 3 _ rfl
          have d4 := hcell 4 _ rfl
          have d5 := hcell 5 _ rfl
          have d6 := hcell 6 _ rfl
          rw [Nat.add_zero] at d0
          have ht := hst.out.t
          have htot := hst.out.tot
          have hq := hst.out.q
          have hcl := hst.out.calls
          have hn := hmp.n100
          have hbad := (emay_parts hyg.1).1
          obtain ⟨E1, ph, S', sv⟩ : ∃ E1 ph S', saveS S (mnm n) (fr 6 (ebd y.E)) = (E1, ph, S') := ⟨_, _, _, rfl⟩
          have R0 := hide (save_fail hmp hst.out.st hst.out.dd hyg hap (by omega) (by omega) sv)
          have SV := hide (km_save hkm y.da y.aa y.dn y.dc y.an y.ac y.E hyo.1.1 hyo.2.1.1 (by have := hyo.1.1.1; omega) (by have := hyo.2.1.1.1; omega) hyg.2 hmp.vok hn.1 hn.2 (by omega) (by omega))
          have HM := hide (show emay y.E = 0 ∧ appl V y.E = some U from ⟨hyg.1, hap⟩)
          have HS := hide sv
          have HYG := hide hyg
          have HVK := hide hvk
          have HVK' := hide hvk'
          have HMP := hide hmp
          have HBEL := hide hst.out.bel
          have HBD := hide hbad
          have HCELL := hide (show ∀ W, Same (fun k => k < we.heap.size) wr W → (∀ (j : Nat) (u : Value), y.cs[j]? = some u → W.cell? ⟨g, i * 7 + j, none⟩ = some u) ∧ y.ok W from fun W hW => by
            have hb := hst.out.bel.trans (hW.below (B := we.heap.size) (fun j hj => hj))
            obtain ⟨ag2, cg2, e2, hg2⟩ := HGD.out.below hb
            injection e2 with e2 _ _
            obtain ⟨h1, -, g2, e3, h3⟩ := hg2 i y hy
            rw [← e2] at e3
            injection e3 with e3
            injection e3 with e3 _ _
            subst e3
            exact ⟨h3, h1⟩)
          have hE01 : E1 = 0 ∨ E1 = 15 := by
            rcases R0.out.2.2.2.2.2 with ⟨-, h, -⟩ | ⟨-, h, -⟩ | ⟨-, h, -⟩
            · exact .inr h
            · exact .inr h
            · exact .inl h
          unfold edV at SV
          clear sv hyg hvk hvk' hmp hcell hg hkm hap hbad
          go_upto_region 12 with (fail)
          refine SV.out.mono ?_
          rintro e w4 ⟨s4, -, q4⟩
          obtain ⟨E2, ph2, S2, r1, rfl, k4⟩ := q4 U HM.out.1 HM.out.2
          rw [HS.out] at r1
          injection r1 with x1 x2
          injection x2 with x2 x3
          subst x1 x2 x3
          have B4 := hide (HBEL.out.trans (s4.below (B := we.heap.size) (fun j hj => hj)))
          have S4 := hide s4
          have K4 := hide k4
          clear SV q4 HS hyo d0 d1 d2 d3 d4 d5 d6 s4 hst k4 HBEL
          go_upto_region 12 with fail
          go_cut [83] from 53 to 122 (fun s83 wx => s83 = .bool false ∧ w4 = wx)
          case first =>
            clear R0 K4 S4 HCELL HVK HVK' HMP HYG HM
            rcases hE01 with rfl | rfl
            · go_wp2_with fail
              go_meet
              case rel => exact ⟨by first | trivial | rfl, rfl⟩
            · go_wp2_with fail
              go_meet
              case rel => exact ⟨by first | trivial | rfl, rfl⟩
          case rest =>
            obtain ⟨rfl, rfl⟩ := hcut
            go_upto_if 85 with fail
            go_cut [13] from 53 to 122 (fun s13 wx => s13 = .int .i64 ((i + 1 : Nat) : Int) ∧ ∃ S2, Hid (FlL we wx M R gs (i + 1) S2 T (3000 + 3958 * i + 2624) (i + 1) (1000 + 200 * i + 4)))
            case first =>
              obtain ⟨st1, dd1, cS, tS, qS, r⟩ := R0.out
              clear R0
              rcases r with ⟨rfl, rfl, hcm, hmp4⟩ | ⟨rfl, rfl, hcm, hlv⟩ | ⟨rfl, rfl, hmp4⟩
              · have k4 : Km (fun k => k < we.heap.size) w4 M R n c V false S' := by have := K4.out; rw [if_pos rfl, if_pos rfl] at this; exact this
                have BR := hide (km_broken k4)
                obtain ⟨hc4, hyo4⟩ := HCELL.out w4 S4.out
                have d0 := hc4 0 _ rfl
                have d1 := hc4 1 _ rfl
                have d2 := hc4 2 _ rfl
                have d3 := hc4 3 _ rfl
                have d4 := hc4 4 _ rfl
                have d5 := hc4 5 _ rfl
                have d6 := hc4 6 _ rfl
                rw [Nat.add_zero] at d0
                obtain ⟨S5, sv5, hcm5, c5, t5, q5, nm5, hmp5⟩ := mp_save_calm hmp4 hcm HYG.out HM.out.2 (by omega) (by omega)
                have SV5 := hide (km_save k4 y.da y.aa y.dn y.dc y.an y.ac y.E hyo4.1.1 hyo4.2.1.1 (by have := hyo4.1.1.1; have := HBD.out.1; omega) (by have := hyo4.2.1.1.1; have := HBD.out.2; omega) HYG.out.2 hmp4.vok hn.1 hn.2 (by omega) (by omega))
                have HS5 := hide sv5
                have HP5 := hide hmp5
                have HC5 := hide hcm5
                unfold edV at SV5
                clear K4 k4 hmp4 hc4 hyo4 sv5 hmp5 hcm5 HCELL nm5
                go_wp2_with fail
                refine BR.out.mono ?_
                rintro e w5 ⟨rfl, rfl⟩
                clear BR
                go_wp2_with fail
                refine SV5.out.mono ?_
                rintro e w6 ⟨s6, -, q6⟩
                obtain ⟨E2, ph2, S2, r1, rfl, k6⟩ := q6 U HM.out.1 HM.out.2
                rw [HS5.out] at r1
                injection r1 with x1 x2
                injection x2 with x2 x3
                subst x1 x2 x3
                rw [if_neg (by decide), if_neg (by decide)] at k6
                have HST := hide (show FlL we w6 M R gs (i + 1) S5 T (3000 + 3958 * i + 2624) (i + 1) (1000 + 200 * i + 4) from ⟨⟨n, _, c + 1, U, HP5.out, HVK'.out, by simpa using k6, by omega⟩, HC5.out.1, HC5.out.2.2, by omega, by omega, by omega, by omega, B4.out.trans (s6.below (B := we.heap.size) (fun j hj => hj))⟩)
                clear SV5 q6 k6 HS5 HP5 HC5 s6
                go_wp2_with fail
                go_meet
                case rel => exact ⟨by go_num, S5, HST⟩
              · have k4 := K4.out
                have BR := hide (km_broken k4)
                have HX := hide (show FlX we w4 M R gs i S' T true from ⟨⟨_, _, _, k4⟩, ⟨U, hlv, .inr ⟨rfl, HVK'.out⟩⟩, st1, dd1, by omega, by omega, by omega, by omega, B4.out⟩)
                clear K4 k4 hlv HCELL
                go_wp2_with fail
                refine BR.out.mono ?_
                rintro e w5 ⟨rfl, rfl⟩
                clear BR
                go_wp2_with fail
                go_meet
                case rel => exact ⟨i, S', T, true, by omega, by first | trivial | rfl, HX⟩
              · have k4 := K4.out
                rw [if_neg (by decide), if_neg (by decide)] at k4
                have HST := hide (show FlL we w4 M R gs (i + 1) S' T (3000 + 3958 * i + 2624) (i + 1) (1000 + 200 * i + 4) from ⟨⟨n, _, c + 1, U, hmp4, HVK'.out, by simpa using k4, by omega⟩, st1, dd1, by omega, by omega, by omega, by omega, B4.out⟩)
                clear K4 k4 hmp4 HCELL
                go_wp2_with fail
                go_meet
                case rel => exact ⟨by go_num, S', HST⟩
            case rest =>
              obtain ⟨rfl, S2, HST⟩ := hcut
              clear R0 K4 S4 B4 HCELL HVK HVK' HMP HYG HM HBD hE01 hn htot hcl hq ht
              have hgl := hg45
              have z1 : (0 : Int) ≤ bits .and .i64 (i : Int) 31 := (andi (i : Int) 31 (by decide)).1
              have z2 : bits .and .i64 (i : Int) 31 ≤ 31 := (andi (i : Int) 31 (by decide)).2
              go_upto_if 104 with fail
              go_cut [13] from 53 to 122 (fun s13 wx => ∃ I1 : Nat, I1 = i + 1 ∧ s13 = .int .i64 (I1 : Int) ∧ ∃ S3 T3, Hid (FlL we wx M R gs (i + 1) S3 T3 (3000 + 3958 * (i + 1)) (i + 1 + 1) (1000 + 200 * (i + 1))))
              case first =>
                cases q1 : (bits .and .i64 (rw0 / 2 ^ (bits .and .i64 (i : Int) 31).toNat) 1 == 1)
                · go_wp2_with fail
                  go_meet
                  case rel => exact ⟨i + 1, rfl, by first | trivial | rfl | go_num, S2, T, hide (HST.out.mono (by omega) (by omega) (by omega))⟩
                · obtain ⟨n, l, c, V, hmp, hvk, hkm, hc1⟩ := HST.out.live
                  have ht := HST.out.t
                  have htot := HST.out.tot
                  have hq := HST.out.q
                  have hcl := HST.out.calls
                  have RW := hide (km_rewrite hkm hmp.dk hmp.solo hmp.top hmp.vok hmp.nn HST.out.dd (by omega) (by omega) (by omega) (by omega))
                  have RC := hide (fun E ph S3 (e : renewS S2 (nextS S2) (whB V) (leB (nextS S2)) = (E, ph, S3)) => rewrite_fail hmp HST.out.st HST.out.dd (by omega) (by omega) (by omega) e)
                  have HV := hide hvk
                  clear hmp hvk hkm
                  go_wp2_with fail
                  refine RW.out.mono ?_
                  rintro e w5 ⟨E3, ph3, S3, r3, rfl, k5, s5⟩
                  obtain ⟨hn3, st3, dd3, c3, t3, q3, r3⟩ := RC.out E3 ph3 S3 r3
                  have B5 := HST.out.bel.trans (s5.below (B := we.heap.size) (fun j hj => hj))
                  have BR := hide (km_broken k5)
                  rcases r3 with ⟨rfl, rfl, hcm, T1, hT1, p⟩ | ⟨rfl, rfl, hcm, p⟩ | ⟨rfl, rfl, p⟩
                  · have HST5 := hide (show FlL we w5 M R gs (i + 1) S3 T1 (3000 + 3958 * (i + 1)) (i + 1 + 1) (1000 + 200 * (i + 1)) from ⟨⟨n, l, c, V, p, HV.out, by simpa using k5, by omega⟩, st3, dd3, by omega, by omega, by omega, by omega, B5⟩)
                    clear RW RC k5 s5 p HST
                    go_wp2_with fail
                    refine BR.out.mono ?_
                    rintro e w6 ⟨rfl, rfl⟩
                    clear BR
                    go_wp2_with fail
                    go_meet
                    case rel => exact ⟨i + 1, rfl, by first | trivial | rfl | go_num, S3, T1, HST5⟩
                  · have HX := hide (show FlX we w5 M R gs (i + 1) S3 (T + 1) true from ⟨⟨_, _, _, k5⟩, ⟨V, p, .inl HV.out⟩, st3, dd3, by omega, by omega, by omega, by omega, B5⟩)
                    clear RW RC k5 s5 p HST
                    go_wp2_with fail
                    refine BR.out.mono ?_
                    rintro e w6 ⟨rfl, rfl⟩
                    clear BR
                    go_wp2_with fail
                    go_meet
                    case rel => exact ⟨i + 1, S3, T + 1, true, by omega, by first | trivial | rfl | go_num, HX⟩
                  · rw [if_neg (by decide), if_neg (by decide), hn3] at k5
                    have HST5 := hide (show FlL we w5 M R gs (i + 1) S3 (T + 1) (3000 + 3958 * (i + 1)) (i + 1 + 1) (1000 + 200 * (i + 1)) from ⟨⟨T + 1, _, 1, V, p, HV.out, by simpa using k5, by omega⟩, st3, dd3, by omega, by omega, by omega, by omega, B5⟩)
                    clear RW RC k5 s5 p HST
                    go_wp2_with fail
                    refine BR.out.mono ?_
                    rintro e w6 ⟨rfl, rfl⟩
                    clear BR
                    go_wp2_with fail
                    go_meet
                    case rel => exact ⟨i + 1, rfl, by first | trivial | rfl | go_num, S3, T + 1, HST5⟩
              case rest =>
                obtain ⟨I1, hI1, rfl, S3, T3, hst3⟩ := hcut
                have HST3 := hide (show FlL we wc M R gs I1 S3 T3 (3000 + 3958 * (i + 1)) (i + 1 + 1) (1000 + 200 * (i + 1)) from by rw [hI1]; exact hst3.out)
                obtain ⟨w6, hw6⟩ : ∃ x, x = wc := ⟨_, rfl⟩
                subst hw6
                clear HST z1 z2 hst3
                obtain ⟨n, l, c, V, hmp, hvk, hkm, hc1⟩ := HST3.out.live
                have hvo := (good_once (.inr hmp.vok)).2
                obtain ⟨NV, hNV⟩ : ∃ n, V.f.length = n := ⟨_, rfl⟩
                have hnv : NV ≤ 9223372036854775807 := by omega
                have hlen := HCQ.out.len
                obtain ⟨av', cv', e1, hvc⟩ := HVD.out.below HST3.out.bel
                injection e1 with e1 e2 e3
                subst e1 e3
                obtain ⟨y0, hy0⟩ : ∃ y, vs[I1]? = some y := ⟨_, List.getElem?_eq_getElem (by omega)⟩
                obtain ⟨hyf, hyc, g0, rfl, hcell⟩ := hvc I1 y0 hy0
                have hyl : y0.V.f.length ≤ 9223372036854775807 := by have := hyf.1; have := hyf.2.1.1; omega
                have hVe : V = y0.V := hvk.at' HCQ.out hy0
                have HI1 := hide hI1
                have VW := hide (fun W (hW : Below w6.heap.size w6 W) => km_view (hkm.below hW) (by omega))
                unfold vwV at VW
                rw [hNV] at VW
                have SM := hide (fun (a : Option Addr) (c' : Nat) (W7 W : World) (h7 : Below w6.heap.size w6 W7) (hW : Below W7.heap.size W7 W) (f7 : Fs W7 a NV c' V.f) => sameview_any a y0.a NV c' y0.V.f.length y0.c V y0.V W (f7.below hW (Nat.le_refl _)) (hyf.below (bmore h7 hW) (Nat.le_refl _)) hnv hyl)
                unfold vwV at SM
                have d0 := hcell 0 _ rfl
                have d1 := hcell 1 _ rfl
                have d2 := hcell 2 _ rfl
                have d3 := hcell 3 _ rfl
                have d4 := hcell 4 _ rfl
                have d5 := hcell 5 _ rfl
                rw [Nat.add_zero] at d0
                have HCL := hide (fun W (hW : Below w6.heap.size w6 W) (j : Nat) (u : Value) (hu : y0.cs[j]? = some u) => (hW.cell (p := ⟨g0, I1 * 6 + j, none⟩) (World.block_lt_of_cell? w6 _ (hcell j u hu))).trans (hcell j u hu))
                have q2 : (0 : Int) ≤ (I1 : Int) ∧ (I1 : Int) < (vs.length : Int) := ⟨by omega, by omega⟩
                have hb0 : Below w6.heap.size w6 w6 := Below.refl _ _
                have hb1 : Below w6.heap.size w6 w6.drew := (Below.refl _ _).drew
                have HVE := hide hVe
                clear hmp hvk hkm hvc hyf hyc hcell hNV hI1 hVe hlen hy0
                go_upto_region 25 with fail
                go_region_with (first
                  | (go_at_call 15; refine (VW.out _ (by with_reducible assumption)).mono ?_; rintro e w7 ⟨a, c', rfl, -, f7, -, hb7⟩; have hb7 : Below w6.heap.size w6 w7 := bmore (by with_reducible assumption) hb7; have HB7 := hide hb7; have F7 := hide f7; have e0 := HCL.out w7 hb7 0 _ rfl; rw [Nat.add_zero] at e0; have e1 := HCL.out w7 hb7 1 _ rfl; have e2 := HCL.out w7 hb7 2 _ rfl; have e3 := HCL.out w7 hb7 3 _ rfl; have e4 := HCL.out w7 hb7 4 _ rfl; have e5 := HCL.out w7 hb7 5 _ rfl; have hc0 : Below w7.heap.size w7 w7 := Below.refl _ _; have hc1 : Below w7.heap.size w7 w7.drew := (Below.refl _ _).drew; clear f7 hb7)
                  | (go_at_call 14; refine (SM.out _ _ w7 _ HB7.out (by with_reducible assumption) F7.out).mono ?_; rintro e w8 ⟨o, rfl, ho, hb8⟩; obtain rfl : o = true := ho.2 HVE.out; have HB8 := hide (show Below w6.heap.size w6 w8 from bmore HB7.out (bmore (by with_reducible assumption) hb8)); clear ho hb8))
                all_goals
                  have HST8 := hide (HST3.out.below HB8.out)
                  clear SM VW HB7 HB8 HCL HST3
                  go_wp2_with fail
                  refine ⟨⟨i + 1, S3, T3, by omega, by rw [HI1.out], by go_num, by rw [← HI1.out]; exact hide (HST8.out.mono (by have := HI1.out; omega) (by have := HI1.out; omega) (by have := HI1.out; omega))⟩, by simp [intOf]; omega⟩
        · obtain rfl : i = gs.length := by omega
          have q1 : ¬ ((gs.length : Int) < (gs.length : Int)) := by omega
          have HX := hide (flx_of hst.out hg45)
          clear hst
          go_wp2_with fail
          go_meet
          case rel => exact ⟨gs.length, S, T, false, Nat.le_refl _, by first | trivial | rfl, HX⟩
    case rest =>
      obtain ⟨NX, SX, TX, br, hnx, rfl, HX⟩ := hcut
      first
        | exact failstail_any w we wc M R gs vs x av cv HBE HVD HCQ hg45 NX SX TX br hnx HX _ _ _ _ _ _ _ _ _ _ _ _ _ _ _ _ _ _ _ _ _ _ _ _ _ _ _ _ _ _ _ _ _ _ _ _ _ _ _ _ _ _ _ _ _ _ _ _ _ _ _ _ _ _ _ _ _ _ _ _ _ _ _ _ _ _ _ _ _ _ _ _ _ _ _ _ _ _ _ _ _ _ _ _ _ _ _ _ _ _ _ _ _ _ _ _ _ _ _ _ _ _ _ _ _ _ _ _ _ _ _ _ _ _ _ _ _ _ _ _ _ _ _ _ _ _ _ _ _ _ _ _ _ _ _ _ _ _ _ _ _ _ _ _ _ _ _ _ _ _ _ _ _ _ _ _ _ _ _ _ _ _ _ _ _ _ _ _ _ _ _ _ _ _ _ _
        | (go_step; exact failstail_any w we wc M R gs vs x av cv HBE HVD HCQ hg45 NX SX TX br hnx HX _ _ _ _ _ _ _ _ _ _ _ _ _ _ _ _ _ _ _ _ _ _ _ _ _ _ _ _ _ _ _ _ _ _ _ _ _ _ _ _ _ _ _ _ _ _ _ _ _ _ _ _ _ _ _ _ _ _ _ _ _ _ _ _ _ _ _ _ _ _ _ _ _ _ _ _ _ _ _ _ _ _ _ _ _ _ _ _ _ _ _ _ _ _ _ _ _ _ _ _ _ _ _ _ _ _ _ _ _ _ _ _ _ _ _ _ _ _ _ _ _ _ _ _ _ _ _ _ _ _ _ _ _ _ _ _ _ _ _ _ _ _ _ _ _ _ _ _ _ _ _ _ _ _ _ _ _ _ _ _ _ _ _ _ _ _ _ _ _ _ _ _ _ _ _ _)

end Go.Proofs.YtcahlmneancapaaGreatDoor.Clep
