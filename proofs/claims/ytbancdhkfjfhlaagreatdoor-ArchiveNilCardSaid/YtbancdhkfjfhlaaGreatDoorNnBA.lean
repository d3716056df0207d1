/- Own work of the verifier: NlC. -/
import Derived.Test.YtbancdhkfjfhlaaGreatDoorNnAZ
set_option linter.all false
set_option exponentiation.threshold 3000
set_option linter.deprecated false
/- WHETHER A CLAIM IS SMALL: the whole. -/
open Go.Proofs
namespace Go.PI
set_option maxRecDepth 20000
set_option maxHeartbeats 4000000
variable (S : FuncId → Option (List AV → Heap → Option (AV × Heap)))
theorem fn21 : ctx.fn 21 = some c21 := by kernel_rfl
theorem fn5 : ctx.fn 5 = some c5 := by kernel_rfl
theorem Has.field {c : List PV} (h : sField.Has c) : ∃ p a b d, c = [p, pn a, pn b, pn d] ∧ Is sInt p := by
  obtain ⟨_, _, rfl, h1, _, _, rfl, ⟨a, -, rfl⟩, _, _, rfl, ⟨b, -, rfl⟩, _, _, rfl, ⟨d, -, rfl⟩, h5⟩ := h
  obtain ⟨p, rfl, hp⟩ := Has.sl1 h1
  have h5 : _ = [] := h5
  subst h5
  exact ⟨p, a, b, d, rfl, hp⟩
theorem Has.surf {c : List PV} (h : sSurf.Has c) : ∃ p a b d f g, c = [p, pn a, pn b, pn d, f, g] ∧ Is sInt p ∧ Is sVecs f ∧ Is sSlots g := by
  obtain ⟨_, _, rfl, h1, _, _, rfl, h2, _, _, rfl, h3, h5⟩ := h
  obtain ⟨p, a, b, d, rfl, hp⟩ := Has.field h1
  obtain ⟨f, rfl, hf⟩ := Has.sl1 h2
  obtain ⟨g, rfl, hg⟩ := Has.sl1 h3
  have h5 : _ = [] := h5
  subst h5
  exact ⟨p, a, b, d, f, g, rfl, hp, hf, hg⟩
theorem Has.ori {c : List PV} (h : sOri.Has c) : ∃ p q, c = [p, q] ∧ Is sInt p ∧ Is sInt q := by
  obtain ⟨_, _, rfl, h1, _, _, rfl, h2, h5⟩ := h
  obtain ⟨p, rfl, hp⟩ := Has.sl1 h1
  obtain ⟨q, rfl, hq⟩ := Has.sl1 h2
  have h5 : _ = [] := h5
  subst h5
  exact ⟨p, q, rfl, hp, hq⟩
structure Clm where
  (kd ct : Int) (tp : PV) (ta tb td : Int) (tc : PV) (sd : Int) (sC sD d1 d2 d3 d4 : PV) (fp : PV) (fa fb fd : Int) (ff fg : PV) (gp : PV) (ga gb gd : Int) (gf gg : PV) (sl : PV) (e1 e2 e3 e4 : PV) (ry : PV) (a1 a2 b1 b2 : PV) (li : PV) (wd : ByteArray) (ol os ot : PV) (ls : PV) (r1 r2 q1 q2 : PV)
def Clm.cells (x : Clm) : List PV :=
  [pn x.kd, pn x.ct, x.tp, pn x.ta, pn x.tb, pn x.td, x.tc, pn x.sd, x.sC, x.sD, x.d1, x.d2, x.d3, x.d4, x.fp, pn x.fa, pn x.fb, pn x.fd, x.ff, x.fg, x.gp, pn x.ga, pn x.gb, pn x.gd, x.gf, x.gg, x.sl, x.e1, x.e2, x.e3, x.e4, x.ry, x.a1, x.a2, x.b1, x.b2, x.li, .str x.wd, x.ol, x.os, x.ot, x.ls, x.r1, x.r2, x.q1, x.q2]
structure ClmOk (x : Clm) : Prop where
  tp : Is sInt x.tp
  tc : Is sVec x.tc
  sC : Is sI x.sC
  sD : Is sInt x.sD
  d1 : Is sI x.d1
  d2 : Is sInt x.d2
  d3 : Is sI x.d3
  d4 : Is sInt x.d4
  fp : Is sInt x.fp
  ff : Is sVecs x.ff
  fg : Is sSlots x.fg
  gp : Is sInt x.gp
  gf : Is sVecs x.gf
  gg : Is sSlots x.gg
  sl : Is sSlot x.sl
  e1 : Is sI x.e1
  e2 : Is sInt x.e2
  e3 : Is sI x.e3
  e4 : Is sInt x.e4
  ry : Is sRay x.ry
  a1 : Is sInt x.a1
  a2 : Is sInt x.a2
  b1 : Is sInt x.b1
  b2 : Is sInt x.b2
  li : Is sInt x.li
  wd : x.wd.size ≤ maxLen
  ol : Is sOri x.ol
  os : Is sInt x.os
  ot : Is sInt x.ot
  ls : Is sI x.ls
  r1 : Is sInt x.r1
  r2 : Is sInt x.r2
  q1 : Is sInt x.q1
  q2 : Is sInt x.q2
theorem Has.claim {c : List PV} (h : sClaim.Has c) : ∃ x : Clm, c = x.cells ∧ ClmOk x := by
  obtain ⟨_, _, rfl, ⟨kd, -, rfl⟩, _, _, rfl, ⟨ct, -, rfl⟩, _, _, rfl, hT, _, _, rfl, hS, _, _, rfl, hF, _, _, rfl, hG, _, _, rfl, hsl, _, _, rfl, hdir, _, _, rfl, hry, _, _, rfl, ha, _, _, rfl, hb, _, _, rfl, hli, _, _, rfl, ⟨wd, hwd, rfl⟩, _, _, rfl, ho, _, _, rfl, hls, _, _, rfl, hr, _, _, rfl, hq, hnil⟩ := h
  obtain ⟨_, _, rfl, hT1, _, _, rfl, hT2, hT3⟩ := hT
  obtain ⟨tp, ta, tb, td, rfl, htp⟩ := Has.field hT1
  obtain ⟨tc, rfl, htc⟩ := Has.sl1 hT2
  have hT3 : _ = [] := hT3
  subst hT3
  obtain ⟨_, _, rfl, ⟨sd, -, rfl⟩, _, _, rfl, hS2, _, _, rfl, hS3, hS4⟩ := hS
  obtain ⟨sC, sD, rfl, hsC, hsD⟩ := Has.num hS2
  obtain ⟨d1, d2, d3, d4, rfl, hd1, hd2, hd3, hd4⟩ := Has.vec hS3
  have hS4 : _ = [] := hS4
  subst hS4
  obtain ⟨fp, fa, fb, fd, ff, fg, rfl, hfp, hff, hfg⟩ := Has.surf hF
  obtain ⟨gp, ga, gb, gd, gf, gg, rfl, hgp, hgf, hgg⟩ := Has.surf hG
  obtain ⟨sl, rfl, hsl⟩ := Has.sl1 hsl
  obtain ⟨e1, e2, e3, e4, rfl, he1, he2, he3, he4⟩ := Has.vec hdir
  obtain ⟨ry, rfl, hry⟩ := Has.sl1 hry
  obtain ⟨a1, a2, rfl, ha1, ha2⟩ := Has.ori ha
  obtain ⟨b1, b2, rfl, hb1, hb2⟩ := Has.ori hb
  obtain ⟨li, rfl, hli⟩ := Has.sl1 hli
  obtain ⟨_, _, rfl, ho1, _, _, rfl, ho2, _, _, rfl, ho3, ho4⟩ := ho
  obtain ⟨ol, rfl, hol⟩ := Has.sl1 ho1
  obtain ⟨os, rfl, hos⟩ := Has.sl1 ho2
  obtain ⟨ot, rfl, hot⟩ := Has.sl1 ho3
  have ho4 : _ = [] := ho4
  subst ho4
  obtain ⟨ls, rfl, hls⟩ := Has.sl1 hls
  obtain ⟨r1, r2, rfl, hr1, hr2⟩ := Has.ori hr
  obtain ⟨q1, q2, rfl, hq1, hq2⟩ := Has.ori hq
  have hnil : _ = [] := hnil
  subst hnil
  exact ⟨⟨kd, ct, tp, ta, tb, td, tc, sd, sC, sD, d1, d2, d3, d4, fp, fa, fb, fd, ff, fg, gp, ga, gb, gd, gf, gg, sl, e1, e2, e3, e4, ry, a1, a2, b1, b2, li, wd, ol, os, ot, ls, r1, r2, q1, q2⟩, rfl,
    ⟨htp, htc, hsC, hsD, hd1, hd2, hd3, hd4, hfp, hff, hfg, hgp, hgf, hgg, hsl, he1, he2, he3, he4, hry, ha1, ha2, hb1, hb2, hli, hwd, hol, hos, hot, hls, hr1, hr2, hq1, hq2⟩⟩
theorem Is.vec4 {a b c d : PV} (ha : Is sI a) (hb : Is sInt b) (hc : Is sI c) (hd : Is sInt d) : sVec.Has [a, b, c, d] :=
  ⟨[a, b], [c, d], rfl, ⟨[a], [b], rfl, ha, [b], [], rfl, hb, rfl⟩, [c, d], [], rfl, ⟨[c], [d], rfl, hc, [d], [], rfl, hd, rfl⟩, rfl⟩
theorem Has.ray {c : List PV} (h : sRay.Has c) : ∃ u1 u2 u3 u4 p q u5, c = [u1, u2, u3, u4, p, q, u5] ∧ Is sI p ∧ Is sInt q := by
  obtain ⟨_, _, rfl, ⟨_, _, rfl, ⟨u1, -, rfl⟩, _, _, rfl, ⟨u2, -, rfl⟩, h2⟩, _, _, rfl, ⟨_, _, rfl, ⟨u3, -, rfl⟩, _, _, rfl, ⟨u4, -, rfl⟩, h4⟩, _, _, rfl, hn, _, _, rfl, ⟨u5, rfl⟩, h5⟩ := h
  have h2 : _ = [] := h2
  have h4 : _ = [] := h4
  have h5 : _ = [] := h5
  subst h2 h4 h5
  obtain ⟨p, q, rfl, hp, hq⟩ := Has.num hn
  exact ⟨_, _, _, _, p, q, _, rfl, hp, hq⟩
def cdr : Code → Code
  | .seq _ b => b
  | c => c
noncomputable def cl1 : Code := cdr c21.body
noncomputable def cl2 : Code := cdr cl1
noncomputable def cl3 : Code := cdr cl2
noncomputable def cl4 : Code := cdr cl3
noncomputable def cl5 : Code := cdr cl4
noncomputable def cl6 : Code := cdr cl5
noncomputable def cl7 : Code := cdr cl6
noncomputable def cl8 : Code := cdr cl7
noncomputable def QF : Ex → PSt → Prop := wEnd (ctx.plus S) c21.results BoolP
def sg1 (x : Clm) : List StB := [.live 51 x.cells]
def sg2 (x : Clm) : List StB := [.live 51 x.cells, .frz 32 [x.d1, x.d2, x.d3, x.d4, x.e1, x.e2, x.e3, x.e4]]
theorem clF (hS : OldN S) (x : Clm) (ho : ClmOk x) {T : List PV} {k : Nat} (hT : Gt T 220 [(1, .optr 0 0)]) (hk : k ≤ 19990) : wC Opn.no none (ctx.plus S) 20000 cl8 ⟨T, sg2 x, k⟩ (QF S) := by
  obtain ⟨kd, ct, tp, ta, tb, td, tc, sd, sC, sD, d1, d2, d3, d4, fp, fa, fb, fd, ff, fg, gp, ga, gb, gd, gf, gg, sl, e1, e2, e3, e4, ry, a1, a2, b1, b2, li, wd, ol, os, ot, ls, r1, r2, q1, q2⟩ := x
  obtain ⟨htp, htc, hsC, hsD, hd1, hd2, hd3, hd4, hfp, hff, hfg, hgp, hgf, hgg, hsl, he1, he2, he3, he4, hry, ha1, ha2, hb1, hb2, hli, hwd, hol, hos, hot, hls, hr1, hr2, hq1, hq2⟩ := ho
  simp only at htp htc hsC hsD hd1 hd2 hd3 hd4 hfp hff hfg hgp hgf hgg hsl he1 he2 he3 he4 hry ha1 ha2 hb1 hb2 hli hwd hol hos hot hls hr1 hr2 hq1 hq2
  obtain ⟨ntp, ctp, rfl, btp, -⟩ := htp.out
  obtain ⟨ntc, ctc, rfl, btc, -⟩ := htc.out
  obtain ⟨nsC, csC, rfl, bsC, -⟩ := hsC.out
  obtain ⟨nsD, csD, rfl, bsD, -⟩ := hsD.out
  obtain ⟨nd1, cd1, rfl, bd1, -⟩ := hd1.out
  obtain ⟨nd2, cd2, rfl, bd2, -⟩ := hd2.out
  obtain ⟨nd3, cd3, rfl, bd3, -⟩ := hd3.out
  obtain ⟨nd4, cd4, rfl, bd4, -⟩ := hd4.out
  obtain ⟨nfp, cfp, rfl, bfp, -⟩ := hfp.out
  obtain ⟨nff, cff, rfl, bff, -⟩ := hff.out
  obtain ⟨nfg, cfg, rfl, bfg, -⟩ := hfg.out
  obtain ⟨ngp, cgp, rfl, bgp, -⟩ := hgp.out
  obtain ⟨ngf, cgf, rfl, bgf, -⟩ := hgf.out
  obtain ⟨ngg, cgg, rfl, bgg, -⟩ := hgg.out
  obtain ⟨nsl, csl, rfl, bsl, -⟩ := hsl.out
  obtain ⟨ne1, ce1, rfl, be1, -⟩ := he1.out
  obtain ⟨ne2, ce2, rfl, be2, -⟩ := he2.out
  obtain ⟨ne3, ce3, rfl, be3, -⟩ := he3.out
  obtain ⟨ne4, ce4, rfl, be4, -⟩ := he4.out
  obtain ⟨nry, cry, rfl, bry, -⟩ := hry.out
  obtain ⟨na1, ca1, rfl, ba1, -⟩ := ha1.out
  obtain ⟨na2, ca2, rfl, ba2, -⟩ := ha2.out
  obtain ⟨nb1, cb1, rfl, bb1, -⟩ := hb1.out
  obtain ⟨nb2, cb2, rfl, bb2, -⟩ := hb2.out
  obtain ⟨nli, cli, rfl, bli, -⟩ := hli.out
  obtain ⟨nol, col, rfl, bol, -⟩ := hol.out
  obtain ⟨nos, cos, rfl, bos, -⟩ := hos.out
  obtain ⟨not, cot, rfl, bot, -⟩ := hot.out
  obtain ⟨nls, cls, rfl, bls, -⟩ := hls.out
  obtain ⟨nr1, cr1, rfl, br1, -⟩ := hr1.out
  obtain ⟨nr2, cr2, rfl, br2, -⟩ := hr2.out
  obtain ⟨nq1, cq1, rfl, bq1, -⟩ := hq1.out
  obtain ⟨nq2, cq2, rfl, bq2, -⟩ := hq2.out
  have hmx : maxLen = 9223372036854775807 := rfl
  try simp only [sg1, sg2, Clm.cells]
  obtain ⟨J, rfl⟩ := gt_open hT
  clear hT
  refine ⟨_, rfl, ?_⟩
  refine ⟨fun hle => ?_, fun hgt => ?_⟩
  · refine ⟨_, rfl, ?_⟩
    refine callq rfl (small_ct S hS hos) (by omega) ?_
    rintro _ ⟨b, rfl⟩
    cases b
    · exact endq rfl ⟨_, rfl⟩
    refine ⟨_, rfl, ?_⟩
    refine callq rfl (small_ct S hS hot) (by omega) ?_
    rintro _ ⟨b, rfl⟩
    cases b
    · exact endq rfl ⟨_, rfl⟩
    · exact endq rfl ⟨_, rfl⟩
  · exact endq rfl ⟨_, rfl⟩
theorem clE (hS : OldN S) (x : Clm) (ho : ClmOk x) {T : List PV} {k : Nat} (hT : Gt T 220 [(1, .optr 0 0)]) (hk : k ≤ 19900) : wC Opn.no none (ctx.plus S) 20000 cl7 ⟨T, sg2 x, k⟩ (QF S) := by
  have hF := fun (T : List PV) (k : Nat) (h1 : Gt T 220 [(1, .optr 0 0)]) (h2 : k ≤ 19990) => clF S hS x ho h1 h2
  obtain ⟨kd, ct, tp, ta, tb, td, tc, sd, sC, sD, d1, d2, d3, d4, fp, fa, fb, fd, ff, fg, gp, ga, gb, gd, gf, gg, sl, e1, e2, e3, e4, ry, a1, a2, b1, b2, li, wd, ol, os, ot, ls, r1, r2, q1, q2⟩ := x
  obtain ⟨htp, htc, hsC, hsD, hd1, hd2, hd3, hd4, hfp, hff, hfg, hgp, hgf, hgg, hsl, he1, he2, he3, he4, hry, ha1, ha2, hb1, hb2, hli, hwd, hol, hos, hot, hls, hr1, hr2, hq1, hq2⟩ := ho
  simp only at htp htc hsC hsD hd1 hd2 hd3 hd4 hfp hff hfg hgp hgf hgg hsl he1 he2 he3 he4 hry ha1 ha2 hb1 hb2 hli hwd hol hos hot hls hr1 hr2 hq1 hq2
  obtain ⟨ntp, ctp, rfl, btp, -⟩ := htp.out
  obtain ⟨ntc, ctc, rfl, btc, -⟩ := htc.out
  obtain ⟨nsC, csC, rfl, bsC, -⟩ := hsC.out
  obtain ⟨nsD, csD, rfl, bsD, -⟩ := hsD.out
  obtain ⟨nd1, cd1, rfl, bd1, -⟩ := hd1.out
  obtain ⟨nd2, cd2, rfl, bd2, -⟩ := hd2.out
  obtain ⟨nd3, cd3, rfl, bd3, -⟩ := hd3.out
  obtain ⟨nd4, cd4, rfl, bd4, -⟩ := hd4.out
  obtain ⟨nfp, cfp, rfl, bfp, -⟩ := hfp.out
  obtain ⟨nff, cff, rfl, bff, -⟩ := hff.out
  obtain ⟨nfg, cfg, rfl, bfg, -⟩ := hfg.out
  obtain ⟨ngp, cgp, rfl, bgp, -⟩ := hgp.out
  obtain ⟨ngf, cgf, rfl, bgf, -⟩ := hgf.out
  obtain ⟨ngg, cgg, rfl, bgg, -⟩ := hgg.out
  obtain ⟨nsl, csl, rfl, bsl, -⟩ := hsl.out
  obtain ⟨ne1, ce1, rfl, be1, -⟩ := he1.out
  obtain ⟨ne2, ce2, rfl, be2, -⟩ := he2.out
  obtain ⟨ne3, ce3, rfl, be3, -⟩ := he3.out
  obtain ⟨ne4, ce4, rfl, be4, -⟩ := he4.out
  obtain ⟨nry, cry, rfl, bry, -⟩ := hry.out
  obtain ⟨na1, ca1, rfl, ba1, -⟩ := ha1.out
  obtain ⟨na2, ca2, rfl, ba2, -⟩ := ha2.out
  obtain ⟨nb1, cb1, rfl, bb1, -⟩ := hb1.out
  obtain ⟨nb2, cb2, rfl, bb2, -⟩ := hb2.out
  obtain ⟨nli, cli, rfl, bli, -⟩ := hli.out
  obtain ⟨nol, col, rfl, bol, -⟩ := hol.out
  obtain ⟨nos, cos, rfl, bos, -⟩ := hos.out
  obtain ⟨not, cot, rfl, bot, -⟩ := hot.out
  obtain ⟨nls, cls, rfl, bls, -⟩ := hls.out
  obtain ⟨nr1, cr1, rfl, br1, -⟩ := hr1.out
  obtain ⟨nr2, cr2, rfl, br2, -⟩ := hr2.out
  obtain ⟨nq1, cq1, rfl, bq1, -⟩ := hq1.out
  obtain ⟨nq2, cq2, rfl, bq2, -⟩ := hq2.out
  have hmx : maxLen = 9223372036854775807 := rfl
  try simp only [sg1, sg2, Clm.cells]
  simp only [sg2, Clm.cells] at hF
  obtain ⟨J, rfl⟩ := gt_open hT
  clear hT
  refine ⟨fun m s => ∃ (i q : Nat) (T : List PV), s = ⟨T, [.live 51 _, .frz 32 _], q⟩ ∧ Gt T 220 [(1, .optr 0 0), (6, pn i)] ∧ m = nol - i ∧ i ≤ nol ∧ q ≤ k + i ∧ i ≤ 40, ⟨_, ci ⟨0, k, _, rfl, ⟨rfl, rfl, rfl, trivial⟩, rfl, Nat.zero_le _, by omega, by omega⟩⟩, ?_⟩
  rintro _ s ⟨i, q, T, rfl, hT, rfl, hi, hq, hi40⟩
  obtain ⟨J, rfl⟩ := gt_open hT
  clear hT
  have ei : pn ((i : Int) + 1) = pn ((i + 1 : Nat) : Int) := congrArg pn (by omega)
  refine ⟨_, rfl, ?_⟩
  refine ⟨fun hlt => ?_, fun hge => ?_⟩
  · refine ⟨_, rfl, ?_⟩
    refine ⟨fun h40 => ?_, fun h40 => ?_⟩
    · obtain ⟨c, rest, hc, hd, hb⟩ := hol.at (.inr (by omega)) (show i < nol by omega)
      obtain ⟨p, q2, rfl, hp, hq2⟩ := Has.ori hc
      have e1 : sOri.nc = 2 := rfl
      rw [e1] at hd hb
      have hix : (i : Int).toNat * 2 ≤ col.length := by omega
      have hd' : col.drop ((i : Int).toNat * 2) = p :: q2 :: rest := by rw [Int.toNat_natCast]; exact hd
      have hv : partP t42 (col.drop ((i : Int).toNat * 2)) 0 = some (.agg [p, q2]) := by rw [hd']; rfl
      obtain ⟨n1, c1, rfl, -, -⟩ := hp.out
      obtain ⟨n2, c2, rfl, -, -⟩ := hq2.out
      refine ⟨_, rfl, ?_⟩
      refine ⟨⟨⟨by omega, by omega⟩, hix⟩, ?_⟩
      refine ⟨_, hv, ?_⟩
      refine callq rfl (smallOri_ct S hS hp hq2) (by omega) ?_
      rintro _ ⟨b, rfl⟩
      cases b
      · exact endq rfl ⟨_, rfl⟩
      refine ⟨⟨by omega, by omega⟩, ?_⟩
      exact ⟨_, by omega, ci ⟨i + 1, _, _, rfl, ⟨rfl, rfl, ei, trivial⟩, rfl, by omega, by omega, by omega⟩⟩
    · exact hF _ _ ⟨rfl, rfl, trivial⟩ (by omega)
  · exact hF _ _ ⟨rfl, rfl, trivial⟩ (by omega)
theorem clD (hS : OldN S) (x : Clm) (ho : ClmOk x) (hr : x.ry.one = true) {T : List PV} {k : Nat} (hT : Gt T 220 [(1, .optr 0 0)]) (hk : k ≤ 19800) (h40 : ∀ n cs, x.ry = .lst n cs → n ≤ 40) : wC Opn.no none (ctx.plus S) 20000 cl6 ⟨T, sg2 x, k⟩ (QF S) := by
  have hE := fun (T : List PV) (k : Nat) (h1 : Gt T 220 [(1, .optr 0 0)]) (h2 : k ≤ 19900) => clE S hS x ho h1 h2
  obtain ⟨kd, ct, tp, ta, tb, td, tc, sd, sC, sD, d1, d2, d3, d4, fp, fa, fb, fd, ff, fg, gp, ga, gb, gd, gf, gg, sl, e1, e2, e3, e4, ry, a1, a2, b1, b2, li, wd, ol, os, ot, ls, r1, r2, q1, q2⟩ := x
  obtain ⟨htp, htc, hsC, hsD, hd1, hd2, hd3, hd4, hfp, hff, hfg, hgp, hgf, hgg, hsl, he1, he2, he3, he4, hry, ha1, ha2, hb1, hb2, hli, hwd, hol, hos, hot, hls, hr1, hr2, hq1, hq2⟩ := ho
  simp only at htp htc hsC hsD hd1 hd2 hd3 hd4 hfp hff hfg hgp hgf hgg hsl he1 he2 he3 he4 hry ha1 ha2 hb1 hb2 hli hwd hol hos hot hls hr1 hr2 hq1 hq2
  obtain ⟨ntp, ctp, rfl, btp, -⟩ := htp.out
  obtain ⟨ntc, ctc, rfl, btc, -⟩ := htc.out
  obtain ⟨nsC, csC, rfl, bsC, -⟩ := hsC.out
  obtain ⟨nsD, csD, rfl, bsD, -⟩ := hsD.out
  obtain ⟨nd1, cd1, rfl, bd1, -⟩ := hd1.out
  obtain ⟨nd2, cd2, rfl, bd2, -⟩ := hd2.out
  obtain ⟨nd3, cd3, rfl, bd3, -⟩ := hd3.out
  obtain ⟨nd4, cd4, rfl, bd4, -⟩ := hd4.out
  obtain ⟨nfp, cfp, rfl, bfp, -⟩ := hfp.out
  obtain ⟨nff, cff, rfl, bff, -⟩ := hff.out
  obtain ⟨nfg, cfg, rfl, bfg, -⟩ := hfg.out
  obtain ⟨ngp, cgp, rfl, bgp, -⟩ := hgp.out
  obtain ⟨ngf, cgf, rfl, bgf, -⟩ := hgf.out
  obtain ⟨ngg, cgg, rfl, bgg, -⟩ := hgg.out
  obtain ⟨nsl, csl, rfl, bsl, -⟩ := hsl.out
  obtain ⟨ne1, ce1, rfl, be1, -⟩ := he1.out
  obtain ⟨ne2, ce2, rfl, be2, -⟩ := he2.out
  obtain ⟨ne3, ce3, rfl, be3, -⟩ := he3.out
  obtain ⟨ne4, ce4, rfl, be4, -⟩ := he4.out
  obtain ⟨nry, cry, rfl, bry, -⟩ := hry.out
  obtain ⟨na1, ca1, rfl, ba1, -⟩ := ha1.out
  obtain ⟨na2, ca2, rfl, ba2, -⟩ := ha2.out
  obtain ⟨nb1, cb1, rfl, bb1, -⟩ := hb1.out
  obtain ⟨nb2, cb2, rfl, bb2, -⟩ := hb2.out
  obtain ⟨nli, cli, rfl, bli, -⟩ := hli.out
  obtain ⟨nol, col, rfl, bol, -⟩ := hol.out
  obtain ⟨nos, cos, rfl, bos, -⟩ := hos.out
  obtain ⟨not, cot, rfl, bot, -⟩ := hot.out
  obtain ⟨nls, cls, rfl, bls, -⟩ := hls.out
  obtain ⟨nr1, cr1, rfl, br1, -⟩ := hr1.out
  obtain ⟨nr2, cr2, rfl, br2, -⟩ := hr2.out
  obtain ⟨nq1, cq1, rfl, bq1, -⟩ := hq1.out
  obtain ⟨nq2, cq2, rfl, bq2, -⟩ := hq2.out
  have hmx : maxLen = 9223372036854775807 := rfl
  try simp only [sg1, sg2, Clm.cells]
  simp only [sg2, Clm.cells] at hE
  have h40 := h40 _ _ rfl
  obtain ⟨J, rfl⟩ := gt_open hT
  clear hT
  refine ⟨fun m s => ∃ (i q : Nat) (T : List PV), s = ⟨T, [.live 51 _, .frz 32 _], q⟩ ∧ Gt T 220 [(1, .optr 0 0), (5, pn i)] ∧ m = nry - i ∧ i ≤ nry ∧ q ≤ k + i, ⟨_, ci ⟨0, k, _, rfl, ⟨rfl, rfl, rfl, trivial⟩, rfl, Nat.zero_le _, by omega⟩⟩, ?_⟩
  rintro _ s ⟨i, q, T, rfl, hT, rfl, hi, hq⟩
  obtain ⟨J, rfl⟩ := gt_open hT
  clear hT
  have ei : pn ((i : Int) + 1) = pn ((i + 1 : Nat) : Int) := congrArg pn (by omega)
  refine ⟨_, rfl, ?_⟩
  refine ⟨fun hlt => ?_, fun hge => ?_⟩
  · obtain ⟨c, rest, hc, hd, hb⟩ := hry.at (.inr (by omega)) (show i < nry by omega)
    obtain ⟨u1, u2, u3, u4, p, q2, u5, rfl, hp, hq2⟩ := Has.ray hc
    have e1 : sRay.nc = 7 := rfl
    rw [e1] at hd hb
    have hix : (i : Int).toNat * 7 ≤ cry.length := by omega
    have hd' : cry.drop ((i : Int).toNat * 7) = u1 :: u2 :: u3 :: u4 :: p :: q2 :: u5 :: rest := by rw [Int.toNat_natCast]; exact hd
    have hf : 4 ≤ (cry.drop ((i : Int).toNat * 7)).length := by rw [hd']; simp
    have hv : partP t30 ((cry.drop ((i : Int).toNat * 7)).drop 4) 0 = some (.agg [p, q2]) := by rw [hd']; rfl
    obtain ⟨n1, c1, rfl, -, -⟩ := hp.out
    obtain ⟨n2, c2, rfl, -, -⟩ := hq2.out
    refine ⟨_, rfl, ?_⟩
    refine ⟨⟨⟨by omega, by omega⟩, hix⟩, ?_⟩
    refine ⟨hf, ?_⟩
    refine ⟨_, hv, ?_⟩
    refine callq rfl (short_ct S hS hp hq2) (by omega) ?_
    rintro _ ⟨b, rfl⟩
    cases b
    · exact endq rfl ⟨_, rfl⟩
    refine ⟨⟨by omega, by omega⟩, ?_⟩
    exact ⟨_, by omega, ci ⟨i + 1, _, _, rfl, ⟨rfl, rfl, ei, trivial⟩, rfl, by omega, by omega⟩⟩
  · exact hE _ _ ⟨rfl, rfl, trivial⟩ (by omega)
theorem clC (hS : OldN S) (x : Clm) (ho : ClmOk x) {T : List PV} {k : Nat} (hT : Gt T 220 [(1, .optr 0 0)]) (hk : k ≤ 10) : wC Opn.no none (ctx.plus S) 20000 cl5 ⟨T, sg1 x, k⟩ (QF S) := by
  have hD := fun (T : List PV) (k : Nat) (h0 : x.ry.one = true) (h1 : Gt T 220 [(1, .optr 0 0)]) (h2 : k ≤ 19800) h3 => clD S hS x ho h0 h1 h2 h3
  obtain ⟨kd, ct, tp, ta, tb, td, tc, sd, sC, sD, d1, d2, d3, d4, fp, fa, fb, fd, ff, fg, gp, ga, gb, gd, gf, gg, sl, e1, e2, e3, e4, ry, a1, a2, b1, b2, li, wd, ol, os, ot, ls, r1, r2, q1, q2⟩ := x
  obtain ⟨htp, htc, hsC, hsD, hd1, hd2, hd3, hd4, hfp, hff, hfg, hgp, hgf, hgg, hsl, he1, he2, he3, he4, hry, ha1, ha2, hb1, hb2, hli, hwd, hol, hos, hot, hls, hr1, hr2, hq1, hq2⟩ := ho
  simp only at htp htc hsC hsD hd1 hd2 hd3 hd4 hfp hff hfg hgp hgf hgg hsl he1 he2 he3 he4 hry ha1 ha2 hb1 hb2 hli hwd hol hos hot hls hr1 hr2 hq1 hq2
  obtain ⟨ntp, ctp, rfl, btp, -⟩ := htp.out
  obtain ⟨ntc, ctc, rfl, btc, -⟩ := htc.out
  obtain ⟨nsC, csC, rfl, bsC, -⟩ := hsC.out
  obtain ⟨nsD, csD, rfl, bsD, -⟩ := hsD.out
  obtain ⟨nd1, cd1, rfl, bd1, -⟩ := hd1.out
  obtain ⟨nd2, cd2, rfl, bd2, -⟩ := hd2.out
  obtain ⟨nd3, cd3, rfl, bd3, -⟩ := hd3.out
  obtain ⟨nd4, cd4, rfl, bd4, -⟩ := hd4.out
  obtain ⟨nfp, cfp, rfl, bfp, -⟩ := hfp.out
  obtain ⟨nff, cff, rfl, bff, -⟩ := hff.out
  obtain ⟨nfg, cfg, rfl, bfg, -⟩ := hfg.out
  obtain ⟨ngp, cgp, rfl, bgp, -⟩ := hgp.out
  obtain ⟨ngf, cgf, rfl, bgf, -⟩ := hgf.out
  obtain ⟨ngg, cgg, rfl, bgg, -⟩ := hgg.out
  obtain ⟨nsl, csl, rfl, bsl, -⟩ := hsl.out
  obtain ⟨ne1, ce1, rfl, be1, -⟩ := he1.out
  obtain ⟨ne2, ce2, rfl, be2, -⟩ := he2.out
  obtain ⟨ne3, ce3, rfl, be3, -⟩ := he3.out
  obtain ⟨ne4, ce4, rfl, be4, -⟩ := he4.out
  obtain ⟨nry, cry, rfl, bry, -⟩ := hry.out
  obtain ⟨na1, ca1, rfl, ba1, -⟩ := ha1.out
  obtain ⟨na2, ca2, rfl, ba2, -⟩ := ha2.out
  obtain ⟨nb1, cb1, rfl, bb1, -⟩ := hb1.out
  obtain ⟨nb2, cb2, rfl, bb2, -⟩ := hb2.out
  obtain ⟨nli, cli, rfl, bli, -⟩ := hli.out
  obtain ⟨nol, col, rfl, bol, -⟩ := hol.out
  obtain ⟨nos, cos, rfl, bos, -⟩ := hos.out
  obtain ⟨not, cot, rfl, bot, -⟩ := hot.out
  obtain ⟨nls, cls, rfl, bls, -⟩ := hls.out
  obtain ⟨nr1, cr1, rfl, br1, -⟩ := hr1.out
  obtain ⟨nr2, cr2, rfl, br2, -⟩ := hr2.out
  obtain ⟨nq1, cq1, rfl, bq1, -⟩ := hq1.out
  obtain ⟨nq2, cq2, rfl, bq2, -⟩ := hq2.out
  have hmx : maxLen = 9223372036854775807 := rfl
  try simp only [sg1, sg2, Clm.cells]
  simp only [sg2, Clm.cells] at hD
  obtain ⟨J, rfl⟩ := gt_open hT
  clear hT
  refine ⟨_, rfl, ?_⟩
  refine ⟨fun h => ?_, fun h => ?_⟩
  · exact endq rfl ⟨_, rfl⟩
  refine ⟨_, rfl, ?_⟩
  refine callq rfl (smallVecs_ct S hS htc) (by omega) ?_
  rintro _ ⟨b, rfl⟩
  cases b
  · exact endq rfl ⟨_, rfl⟩
  refine ⟨_, rfl, ?_⟩
  refine callq rfl (short_ct S hS hsC hsD) (by omega) ?_
  rintro _ ⟨b, rfl⟩
  cases b
  · exact endq rfl ⟨_, rfl⟩
  refine ⟨_, rfl, ?_⟩
  refine ⟨_, rfl, ?_⟩
  refine ⟨by omega, partc rfl ⟨_, rfl, ?_⟩⟩
  have hv2 : Is sVec (.lst 2 [.lst nd1 cd1, .lst nd2 cd2, .lst nd3 cd3, .lst nd4 cd4, .lst ne1 ce1, .lst ne2 ce2, .lst ne3 ce3, .lst ne4 ce4]) :=
    ⟨2, _, rfl, by omega, fun _ => ⟨[[.lst nd1 cd1, .lst nd2 cd2, .lst nd3 cd3, .lst nd4 cd4], [.lst ne1 ce1, .lst ne2 ce2, .lst ne3 ce3, .lst ne4 ce4]], rfl, rfl, fun c hc => by
      rcases List.mem_cons.1 hc with rfl | hc
      · exact Is.vec4 hd1 hd2 hd3 hd4
      · rw [List.mem_singleton.1 hc]
        exact Is.vec4 he1 he2 he3 he4⟩⟩
  refine cal1 (fz_own rfl (show 2 * 4 ≤ 8 from Nat.le_refl _) (by omega) rfl) (smallVecs_ct S hS hv2) (by omega) ?_
  rintro _ ⟨b, rfl⟩
  cases b
  · exact endq rfl ⟨_, rfl⟩
  refine ⟨_, rfl, ?_⟩
  refine callq rfl (smallSurf_ct S hS hfp hff hfg) (by omega) ?_
  rintro _ ⟨b, rfl⟩
  cases b
  · exact endq rfl ⟨_, rfl⟩
  refine ⟨_, rfl, ?_⟩
  refine callq rfl (smallSurf_ct S hS hgp hgf hgg) (by omega) ?_
  rintro _ ⟨b, rfl⟩
  cases b
  · exact endq rfl ⟨_, rfl⟩
  refine ⟨_, rfl, ?_⟩
  refine ⟨fun h => ?_, fun h => ?_⟩
  · exact endq rfl ⟨_, rfl⟩
  refine ⟨_, rfl, ?_⟩
  refine ⟨fun h => ?_, fun hray => ?_⟩
  · exact endq rfl ⟨_, rfl⟩
  refine ⟨_, rfl, ?_⟩
  refine callq rfl (smallOri_ct S hS ha1 ha2) (by omega) ?_
  rintro _ ⟨b, rfl⟩
  cases b
  · exact endq rfl ⟨_, rfl⟩
  refine ⟨_, rfl, ?_⟩
  refine callq rfl (smallOri_ct S hS hb1 hb2) (by omega) ?_
  rintro _ ⟨b, rfl⟩
  cases b
  · exact endq rfl ⟨_, rfl⟩
  refine ⟨_, rfl, ?_⟩
  refine callq rfl (small_ct S hS hli) (by omega) ?_
  rintro _ ⟨b, rfl⟩
  cases b
  · exact endq rfl ⟨_, rfl⟩
  refine ⟨_, rfl, ?_⟩
  refine ⟨fun h => ?_, fun h => ?_⟩
  · exact endq rfl ⟨_, rfl⟩
  refine ⟨_, rfl, ?_⟩
  refine callq rfl (smallLists_ct S hS hls) (by omega) ?_
  rintro _ ⟨b, rfl⟩
  cases b
  · exact endq rfl ⟨_, rfl⟩
  refine ⟨_, rfl, ?_⟩
  refine callq rfl (small_ct S hS hr1) (by omega) ?_
  rintro _ ⟨b, rfl⟩
  cases b
  · exact endq rfl ⟨_, rfl⟩
  refine ⟨_, rfl, ?_⟩
  refine callq rfl (small_ct S hS hr2) (by omega) ?_
  rintro _ ⟨b, rfl⟩
  cases b
  · exact endq rfl ⟨_, rfl⟩
  refine ⟨_, rfl, ?_⟩
  refine callq rfl (small_ct S hS hq1) (by omega) ?_
  rintro _ ⟨b, rfl⟩
  cases b
  · exact endq rfl ⟨_, rfl⟩
  refine ⟨_, rfl, ?_⟩
  refine callq rfl (small_ct S hS hq2) (by omega) ?_
  rintro _ ⟨b, rfl⟩
  cases b
  · exact endq rfl ⟨_, rfl⟩
  exact hD _ _ rfl ⟨rfl, rfl, trivial⟩ (by omega) (fun n cs e => by cases e; omega)
theorem clB (hS : OldN S) (x : Clm) (ho : ClmOk x) {T : List PV} {k : Nat} {sq : Int} (hT : Gt T 220 [(1, .optr 0 0), (3, pn sq)]) (hk : k ≤ 10) : wC Opn.no none (ctx.plus S) 20000 cl4 ⟨T, sg1 x, k⟩ (QF S) := by
  have hC := fun (T : List PV) (k : Nat) (h1 : Gt T 220 [(1, .optr 0 0)]) (h2 : k ≤ 10) => clC S hS x ho h1 h2
  obtain ⟨J, rfl⟩ := gt_open hT
  clear hT
  refine ⟨fun h => ?_, fun h => ?_⟩
  · refine ⟨fun h => ?_, fun h => ?_⟩
    · exact endq rfl ⟨_, rfl⟩
    · exact hC _ _ ⟨rfl, rfl, trivial⟩ hk
  · exact hC _ _ ⟨rfl, rfl, trivial⟩ hk
theorem cl3_ok (hS : OldN S) (x : Clm) (ho : ClmOk x) {T : List PV} {k : Nat} (hT : Gt T 220 [(1, .optr 0 0), (3, pn 0)]) (hk : k ≤ 10) : wC Opn.no none (ctx.plus S) 20000 cl3 ⟨T, sg1 x, k⟩ (QF S) := by
  have hB := fun (T : List PV) (sq : Int) (h1 : Gt T 220 [(1, .optr 0 0), (3, pn sq)]) => clB S hS x ho (sq := sq) h1 hk
  obtain ⟨kd, ct, tp, ta, tb, td, tc, sd, sC, sD, d1, d2, d3, d4, fp, fa, fb, fd, ff, fg, gp, ga, gb, gd, gf, gg, sl, e1, e2, e3, e4, ry, a1, a2, b1, b2, li, wd, ol, os, ot, ls, r1, r2, q1, q2⟩ := x
  obtain ⟨htp, htc, hsC, hsD, hd1, hd2, hd3, hd4, hfp, hff, hfg, hgp, hgf, hgg, hsl, he1, he2, he3, he4, hry, ha1, ha2, hb1, hb2, hli, hwd, hol, hos, hot, hls, hr1, hr2, hq1, hq2⟩ := ho
  simp only at htp htc hsC hsD hd1 hd2 hd3 hd4 hfp hff hfg hgp hgf hgg hsl he1 he2 he3 he4 hry ha1 ha2 hb1 hb2 hli hwd hol hos hot hls hr1 hr2 hq1 hq2
  obtain ⟨ntp, ctp, rfl, btp, -⟩ := htp.out
  obtain ⟨ntc, ctc, rfl, btc, -⟩ := htc.out
  obtain ⟨nsC, csC, rfl, bsC, -⟩ := hsC.out
  obtain ⟨nsD, csD, rfl, bsD, -⟩ := hsD.out
  obtain ⟨nd1, cd1, rfl, bd1, -⟩ := hd1.out
  obtain ⟨nd2, cd2, rfl, bd2, -⟩ := hd2.out
  obtain ⟨nd3, cd3, rfl, bd3, -⟩ := hd3.out
  obtain ⟨nd4, cd4, rfl, bd4, -⟩ := hd4.out
  obtain ⟨nfp, cfp, rfl, bfp, -⟩ := hfp.out
  obtain ⟨nff, cff, rfl, bff, -⟩ := hff.out
  obtain ⟨nfg, cfg, rfl, bfg, -⟩ := hfg.out
  obtain ⟨ngp, cgp, rfl, bgp, -⟩ := hgp.out
  obtain ⟨ngf, cgf, rfl, bgf, -⟩ := hgf.out
  obtain ⟨ngg, cgg, rfl, bgg, -⟩ := hgg.out
  obtain ⟨nsl, csl, rfl, bsl, -⟩ := hsl.out
  obtain ⟨ne1, ce1, rfl, be1, -⟩ := he1.out
  obtain ⟨ne2, ce2, rfl, be2, -⟩ := he2.out
  obtain ⟨ne3, ce3, rfl, be3, -⟩ := he3.out
  obtain ⟨ne4, ce4, rfl, be4, -⟩ := he4.out
  obtain ⟨nry, cry, rfl, bry, -⟩ := hry.out
  obtain ⟨na1, ca1, rfl, ba1, -⟩ := ha1.out
  obtain ⟨na2, ca2, rfl, ba2, -⟩ := ha2.out
  obtain ⟨nb1, cb1, rfl, bb1, -⟩ := hb1.out
  obtain ⟨nb2, cb2, rfl, bb2, -⟩ := hb2.out
  obtain ⟨nli, cli, rfl, bli, -⟩ := hli.out
  obtain ⟨nol, col, rfl, bol, -⟩ := hol.out
  obtain ⟨nos, cos, rfl, bos, -⟩ := hos.out
  obtain ⟨not, cot, rfl, bot, -⟩ := hot.out
  obtain ⟨nls, cls, rfl, bls, -⟩ := hls.out
  obtain ⟨nr1, cr1, rfl, br1, -⟩ := hr1.out
  obtain ⟨nr2, cr2, rfl, br2, -⟩ := hr2.out
  obtain ⟨nq1, cq1, rfl, bq1, -⟩ := hq1.out
  obtain ⟨nq2, cq2, rfl, bq2, -⟩ := hq2.out
  have hmx : maxLen = 9223372036854775807 := rfl
  try simp only [sg1, sg2, Clm.cells]
  simp only [sg1, Clm.cells] at hB
  obtain ⟨J, rfl⟩ := gt_open hT
  clear hT
  refine ⟨fun m s => ∃ (i : Nat) (sq : Int) (T : List PV), s = ⟨T, [.live 51 _], k⟩ ∧ Gt T 220 [(1, .optr 0 0), (3, pn sq), (4, pn i)] ∧ m = nli - i ∧ i ≤ nli ∧ (0 ≤ sq ∧ sq ≤ 100 * i) ∧ i ≤ 31, ⟨_, ci ⟨0, 0, _, rfl, ⟨rfl, rfl, rfl, rfl, trivial⟩, rfl, Nat.zero_le _, by omega, by omega⟩⟩, ?_⟩
  rintro _ s ⟨i, sq, T, rfl, hT, rfl, hi, ⟨hq0, hq1⟩, hi30⟩
  obtain ⟨J, rfl⟩ := gt_open hT
  clear hT
  have ei : pn ((i : Int) + 1) = pn ((i + 1 : Nat) : Int) := congrArg pn (by omega)
  refine ⟨_, rfl, ?_⟩
  refine ⟨fun hlt => ?_, fun hge => ?_⟩
  · refine ⟨_, rfl, ?_⟩
    refine ⟨fun h30 => ?_, fun h30 => ?_⟩
    · refine ⟨_, rfl, ?_⟩
      refine ⟨fun h9 => ?_, fun h9 => ?_⟩
      · obtain ⟨c, rest, hc, hd, hb⟩ := hli.at (.inl rfl) (show i < nli by omega)
        obtain ⟨z, rfl, hz⟩ := Has.int1 hc
        have e1 : sInt.nc = 1 := rfl
        rw [e1] at hd hb
        have hix : (i : Int).toNat * 1 ≤ cli.length := by omega
        have hv : (cli.drop ((i : Int).toNat * 1))[0]? = some (pn z) := by rw [Int.toNat_natCast, hd]; rfl
        refine ⟨_, rfl, ?_⟩
        refine ⟨⟨⟨by omega, by omega⟩, hix⟩, ?_⟩
        refine ⟨_, hv, ?_⟩
        refine ⟨⟨by omega, by omega⟩, ?_⟩
        refine ⟨⟨by omega, by omega⟩, ?_⟩
        exact ⟨_, by omega, ci ⟨i + 1, _, _, rfl, ⟨rfl, rfl, rfl, ei, trivial⟩, rfl, by omega, by omega, by omega⟩⟩
      · exact hB _ _ ⟨rfl, rfl, rfl, trivial⟩
    · exact hB _ _ ⟨rfl, rfl, rfl, trivial⟩
  · exact hB _ _ ⟨rfl, rfl, rfl, trivial⟩
theorem claim_ct (hS : OldN S) (x : Clm) (ho : ClmOk x) : Ct (ctx.plus S) 21 [.agg x.cells] 20000 BoolP := by
  have h3 := fun (T : List PV) (k : Nat) (h1 : Gt T 220 [(1, .optr 0 0), (3, pn 0)]) (h2 : k ≤ 10) => cl3_ok S hS x ho h1 h2
  obtain ⟨kd, ct, tp, ta, tb, td, tc, sd, sC, sD, d1, d2, d3, d4, fp, fa, fb, fd, ff, fg, gp, ga, gb, gd, gf, gg, sl, e1, e2, e3, e4, ry, a1, a2, b1, b2, li, wd, ol, os, ot, ls, r1, r2, q1, q2⟩ := x
  obtain ⟨htp, htc, hsC, hsD, hd1, hd2, hd3, hd4, hfp, hff, hfg, hgp, hgf, hgg, hsl, he1, he2, he3, he4, hry, ha1, ha2, hb1, hb2, hli, hwd, hol, hos, hot, hls, hr1, hr2, hq1, hq2⟩ := ho
  simp only at htp htc hsC hsD hd1 hd2 hd3 hd4 hfp hff hfg hgp hgf hgg hsl he1 he2 he3 he4 hry ha1 ha2 hb1 hb2 hli hwd hol hos hot hls hr1 hr2 hq1 hq2
  obtain ⟨ntp, ctp, rfl, btp, -⟩ := htp.out
  obtain ⟨ntc, ctc, rfl, btc, -⟩ := htc.out
  obtain ⟨nsC, csC, rfl, bsC, -⟩ := hsC.out
  obtain ⟨nsD, csD, rfl, bsD, -⟩ := hsD.out
  obtain ⟨nd1, cd1, rfl, bd1, -⟩ := hd1.out
  obtain ⟨nd2, cd2, rfl, bd2, -⟩ := hd2.out
  obtain ⟨nd3, cd3, rfl, bd3, -⟩ := hd3.out
  obtain ⟨nd4, cd4, rfl, bd4, -⟩ := hd4.out
  obtain ⟨nfp, cfp, rfl, bfp, -⟩ := hfp.out
  obtain ⟨nff, cff, rfl, bff, -⟩ := hff.out
  obtain ⟨nfg, cfg, rfl, bfg, -⟩ := hfg.out
  obtain ⟨ngp, cgp, rfl, bgp, -⟩ := hgp.out
  obtain ⟨ngf, cgf, rfl, bgf, -⟩ := hgf.out
  obtain ⟨ngg, cgg, rfl, bgg, -⟩ := hgg.out
  obtain ⟨nsl, csl, rfl, bsl, -⟩ := hsl.out
  obtain ⟨ne1, ce1, rfl, be1, -⟩ := he1.out
  obtain ⟨ne2, ce2, rfl, be2, -⟩ := he2.out
  obtain ⟨ne3, ce3, rfl, be3, -⟩ := he3.out
  obtain ⟨ne4, ce4, rfl, be4, -⟩ := he4.out
  obtain ⟨nry, cry, rfl, bry, -⟩ := hry.out
  obtain ⟨na1, ca1, rfl, ba1, -⟩ := ha1.out
  obtain ⟨na2, ca2, rfl, ba2, -⟩ := ha2.out
  obtain ⟨nb1, cb1, rfl, bb1, -⟩ := hb1.out
  obtain ⟨nb2, cb2, rfl, bb2, -⟩ := hb2.out
  obtain ⟨nli, cli, rfl, bli, -⟩ := hli.out
  obtain ⟨nol, col, rfl, bol, -⟩ := hol.out
  obtain ⟨nos, cos, rfl, bos, -⟩ := hos.out
  obtain ⟨not, cot, rfl, bot, -⟩ := hot.out
  obtain ⟨nls, cls, rfl, bls, -⟩ := hls.out
  obtain ⟨nr1, cr1, rfl, br1, -⟩ := hr1.out
  obtain ⟨nr2, cr2, rfl, br2, -⟩ := hr2.out
  obtain ⟨nq1, cq1, rfl, bq1, -⟩ := hq1.out
  obtain ⟨nq2, cq2, rfl, bq2, -⟩ := hq2.out
  have hmx : maxLen = 9223372036854775807 := rfl
  try simp only [sg1, sg2, Clm.cells]
  simp only [sg1, Clm.cells] at h3
  refine ct_of (hS 21 (by decide)) fn21 ?_
  refine ⟨by omega, ?_⟩
  refine ⟨_, rfl, ?_⟩
  refine ⟨fun h => ?_, fun h => ?_⟩
  · refine ⟨_, rfl, ?_⟩
    refine ⟨fun h => ?_, fun h => ?_⟩
    · refine ⟨_, rfl, ?_⟩
      refine ⟨fun h => ?_, fun h => ?_⟩
      · exact endq rfl ⟨_, rfl⟩
      · exact h3 _ _ ⟨rfl, rfl, rfl, trivial⟩ (by omega)
    · exact h3 _ _ ⟨rfl, rfl, rfl, trivial⟩ (by omega)
  · exact h3 _ _ ⟨rfl, rfl, rfl, trivial⟩ (by omega)
end Go.PI
