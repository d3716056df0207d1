/- Own work of the verifier: NlD NlArg. -/
import Derived.Test.YtbancdhkfjfhlaaGreatDoorNnBA
import Derived.Test.YtbancdhkfjfhlaaGreatDoorNnAU
import Derived.Test.YtbancdhkfjfhlaaGreatDoorNnAV
set_option linter.all false
set_option exponentiation.threshold 3000
set_option linter.deprecated false
/- OF WHAT THERE IS NOT NOTHING IS TOLD. -/
open Go.Proofs
namespace Go.PI
set_option maxRecDepth 20000
set_option maxHeartbeats 4000000
variable (S : FuncId → Option (List AV → Heap → Option (AV × Heap)))
theorem fn6 : ctx.fn 6 = some c6 := by kernel_rfl
theorem fn7 : ctx.fn 7 = some c7 := by kernel_rfl
theorem fn8 : ctx.fn 8 = some c8 := by kernel_rfl
theorem fn9 : ctx.fn 9 = some c9 := by kernel_rfl
theorem fn10 : ctx.fn 10 = some c10 := by kernel_rfl
theorem fn11 : ctx.fn 11 = some c11 := by kernel_rfl
theorem fn12 : ctx.fn 12 = some c12 := by kernel_rfl
theorem fn13 : ctx.fn 13 = some c13 := by kernel_rfl
theorem fn14 : ctx.fn 14 = some c14 := by kernel_rfl
theorem fn27 : ctx.fn 27 = some c27 := by kernel_rfl
theorem fn65 : ctx.fn 65 = some c65 := by kernel_rfl
theorem fn3 : ctx.fn 3 = some c3 := by kernel_rfl
theorem fz_fnc1 {f i : Nat} {ty : TypeId} {cs : List PV} {σ : List StB} (h : contOf σ i = some (ty, cs)) : Fz (.fnc f [.optr i 0]) σ (.fnc f [.lptr cs]) (σ.set i (.frz ty cs)) := fun _ hK => ⟨ty, cs, h, Nat.zero_le _, hK⟩
def qmk : ByteArray := ⟨#[63]⟩
theorem new_ct (hS : OldN S) : Ct (ctx.plus S) 8 [] 1 fun r => r = .lptr [.lst 0 []] := by
  refine ct_of (hS 8 (by decide)) fn8 ?_
  refine ⟨_, rfl, ?_⟩
  refine ⟨by omega, ?_⟩
  exact endf (σ1 := [.frz 85 [.lst 0 []]]) (fun K hK => ⟨_, _, rfl, Nat.zero_le _, hK⟩) rfl
theorem results_ct (hS : OldN S) : Ct (ctx.plus S) 9 [.nilp] 0 fun r => r = .lst 0 [] := by
  refine ct_of (hS 9 (by decide)) fn9 ?_
  exact endf fzN rfl
theorem index_ct (hS : OldN S) {cs : List PV} : Ct (ctx.plus S) 65 [.lst 0 [], .fnc 28 cs] 0 fun r => r = pn (-1) := by
  refine ct_of (hS 65 (by decide)) fn65 ?_
  refine ⟨fun m s => ∃ T : List PV, s = ⟨T, [], 0⟩ ∧ Gt T 19 [(7, pn 0), (8, pn 0)] ∧ m = 0, ⟨_, ci ⟨_, rfl, ⟨rfl, rfl, rfl, trivial⟩, rfl⟩⟩, ?_⟩
  rintro _ s ⟨T, rfl, hT, rfl⟩
  obtain ⟨J, rfl⟩ := gt_open hT
  clear hT
  refine ⟨fun h => by omega, fun _ => ?_⟩
  exact endq rfl rfl
theorem delete_ct (hS : OldN S) {s : ByteArray} : Ct (ctx.plus S) 27 [.lst 0 [], .fnc 28 [.lptr [.str s]]] 0 fun r => r = .lst 0 [] := by
  refine ct_of (hS 27 (by decide)) fn27 ?_
  refine callq rfl (index_ct S hS) (by omega) ?_
  rintro _ rfl
  refine ⟨fun _ => ?_, fun h => absurd rfl h⟩
  exact endq rfl rfl
theorem named_ct (hS : OldN S) {s : ByteArray} : Ct (ctx.plus S) 10 [.nilp, .str s] 1 fun r => r = .lst 0 [] := by
  refine ct_of (hS 10 (by decide)) fn10 ?_
  refine ⟨by omega, ?_⟩
  refine callq rfl (results_ct S hS) (by omega) ?_
  rintro _ rfl
  refine cal2 fzL (fz_fnc1 rfl) (delete_ct S hS) (by omega) ?_
  rintro _ rfl
  exact endq rfl rfl
theorem kinds_ct (hS : OldN S) : Ct (ctx.plus S) 11 [.nilp] 0 fun r => r = .lst 0 [] := by
  refine ct_of (hS 11 (by decide)) fn11 ?_
  exact endf fzN rfl
theorem journal_ct (hS : OldN S) : Ct (ctx.plus S) 12 [.nilp] 0 fun r => r = .str .empty := by
  refine ct_of (hS 12 (by decide)) fn12 ?_
  exact endq rfl rfl
theorem do_ct (hS : OldN S) {s : ByteArray} : Ct (ctx.plus S) 13 [.nilp, .str s] 0 fun r => r = .str qmk := by
  refine ct_of (hS 13 (by decide)) fn13 ?_
  exact endq rfl rfl
theorem arch_ct (hS : OldN S) : Ct (ctx.plus S) 14 [.nilp] 0 fun r => r = .nilp := by
  refine ct_of (hS 14 (by decide)) fn14 ?_
  exact endq rfl rfl
theorem merge1_ct (hS : OldN S) {cs : List PV} : Ct (ctx.plus S) 7 [.nilp, .lptr cs] 0 fun r => r = .tup [.nilp, pn 1] := by
  refine ct_of (hS 7 (by decide)) fn7 ?_
  exact endsq rfl rfl
theorem merge2_ct (hS : OldN S) {cs : List PV} : Ct (ctx.plus S) 7 [.lptr cs, .nilp] 0 fun r => r = .tup [.nilp, pn 1] := by
  refine ct_of (hS 7 (by decide)) fn7 ?_
  exact endsq rfl rfl
theorem add_ct (hS : OldN S) (x : Clm) (ho : ClmOk x) {a b : ByteArray} {num : Int} : Ct (ctx.plus S) 6 [.nilp, .agg (.str a :: .str b :: pn num :: x.cells)] 1 fun r => r = .tup [.bool false, pn 1] := by
  obtain ⟨kd, ct, tp, ta, tb, td, tc, sd, sC, sD, d1, d2, d3, d4, fp, fa, fb, fd, ff, fg, gp, ga, gb, gd, gf, gg, sl, e1, e2, e3, e4, ry, a1, a2, b1, b2, li, wd, ol, os, ot, ls, r1, r2, q1, q2⟩ := x
  obtain ⟨htp, htc, hsC, hsD, hd1, hd2, hd3, hd4, hfp, hff, hfg, hgp, hgf, hgg, hsl, he1, he2, he3, he4, hry, ha1, ha2, hb1, hb2, hli, hwd, hol, hos, hot, hls, hr1, hr2, hq1, hq2⟩ := ho
  simp only at htp htc hsC hsD hd1 hd2 hd3 hd4 hfp hff hfg hgp hgf hgg hsl he1 he2 he3 he4 hry ha1 ha2 hb1 hb2 hli hwd hol hos hot hls hr1 hr2 hq1 hq2
  obtain ⟨ntp, ctp, rfl, btp, -⟩ := htp.out
  obtain ⟨ntc, ctc, rfl, btc, -⟩ := htc.out
  obtain ⟨nsC, csC, rfl, bsC, -⟩ := hsC.out
  obtain ⟨nsD, csD, rfl, bsD, -⟩ := hsD.out
  obtain ⟨nd1, cd1, rfl, bd1, -⟩ := hd1.out
  obtain ⟨nd2, cd2, rfl, bd2, -⟩ := hd2.out
  obtain ⟨nd3, cd3, rfl, bd3, -⟩ := hd3.out
  obtain ⟨nd4, cd4, rfl, bd4, -⟩ := hd4.out
  obtain ⟨nfp, cfp, rfl, bfp, -⟩ := hfp.out
  obtain ⟨nff, cff, rfl, bff, -⟩ := hff.out
  obtain ⟨nfg, cfg, rfl, bfg, -⟩ := hfg.out
  obtain ⟨ngp, cgp, rfl, bgp, -⟩ := hgp.out
  obtain ⟨ngf, cgf, rfl, bgf, -⟩ := hgf.out
  obtain ⟨ngg, cgg, rfl, bgg, -⟩ := hgg.out
  obtain ⟨nsl, csl, rfl, bsl, -⟩ := hsl.out
  obtain ⟨ne1, ce1, rfl, be1, -⟩ := he1.out
  obtain ⟨ne2, ce2, rfl, be2, -⟩ := he2.out
  obtain ⟨ne3, ce3, rfl, be3, -⟩ := he3.out
  obtain ⟨ne4, ce4, rfl, be4, -⟩ := he4.out
  obtain ⟨nry, cry, rfl, bry, -⟩ := hry.out
  obtain ⟨na1, ca1, rfl, ba1, -⟩ := ha1.out
  obtain ⟨na2, ca2, rfl, ba2, -⟩ := ha2.out
  obtain ⟨nb1, cb1, rfl, bb1, -⟩ := hb1.out
  obtain ⟨nb2, cb2, rfl, bb2, -⟩ := hb2.out
  obtain ⟨nli, cli, rfl, bli, -⟩ := hli.out
  obtain ⟨nol, col, rfl, bol, -⟩ := hol.out
  obtain ⟨nos, cos, rfl, bos, -⟩ := hos.out
  obtain ⟨not, cot, rfl, bot, -⟩ := hot.out
  obtain ⟨nls, cls, rfl, bls, -⟩ := hls.out
  obtain ⟨nr1, cr1, rfl, br1, -⟩ := hr1.out
  obtain ⟨nr2, cr2, rfl, br2, -⟩ := hr2.out
  obtain ⟨nq1, cq1, rfl, bq1, -⟩ := hq1.out
  obtain ⟨nq2, cq2, rfl, bq2, -⟩ := hq2.out
  have hmx : maxLen = 9223372036854775807 := rfl
  simp only [Clm.cells]
  refine ct_of (hS 6 (by decide)) fn6 ?_
  refine ⟨by omega, ?_⟩
  exact endsq rfl rfl
theorem little_ct (hS : OldN S) (x : Clm) (ho : ClmOk x) {a b : ByteArray} {num : Int} : Ct (ctx.plus S) 5 [.agg (.str a :: .str b :: pn num :: x.cells)] 30000 BoolP := by
  have hcl := claim_ct S hS x ho
  obtain ⟨kd, ct, tp, ta, tb, td, tc, sd, sC, sD, d1, d2, d3, d4, fp, fa, fb, fd, ff, fg, gp, ga, gb, gd, gf, gg, sl, e1, e2, e3, e4, ry, a1, a2, b1, b2, li, wd, ol, os, ot, ls, r1, r2, q1, q2⟩ := x
  obtain ⟨htp, htc, hsC, hsD, hd1, hd2, hd3, hd4, hfp, hff, hfg, hgp, hgf, hgg, hsl, he1, he2, he3, he4, hry, ha1, ha2, hb1, hb2, hli, hwd, hol, hos, hot, hls, hr1, hr2, hq1, hq2⟩ := ho
  simp only at htp htc hsC hsD hd1 hd2 hd3 hd4 hfp hff hfg hgp hgf hgg hsl he1 he2 he3 he4 hry ha1 ha2 hb1 hb2 hli hwd hol hos hot hls hr1 hr2 hq1 hq2
  obtain ⟨ntp, ctp, rfl, btp, -⟩ := htp.out
  obtain ⟨ntc, ctc, rfl, btc, -⟩ := htc.out
  obtain ⟨nsC, csC, rfl, bsC, -⟩ := hsC.out
  obtain ⟨nsD, csD, rfl, bsD, -⟩ := hsD.out
  obtain ⟨nd1, cd1, rfl, bd1, -⟩ := hd1.out
  obtain ⟨nd2, cd2, rfl, bd2, -⟩ := hd2.out
  obtain ⟨nd3, cd3, rfl, bd3, -⟩ := hd3.out
  obtain ⟨nd4, cd4, rfl, bd4, -⟩ := hd4.out
  obtain ⟨nfp, cfp, rfl, bfp, -⟩ := hfp.out
  obtain ⟨nff, cff, rfl, bff, -⟩ := hff.out
  obtain ⟨nfg, cfg, rfl, bfg, -⟩ := hfg.out
  obtain ⟨ngp, cgp, rfl, bgp, -⟩ := hgp.out
  obtain ⟨ngf, cgf, rfl, bgf, -⟩ := hgf.out
  obtain ⟨ngg, cgg, rfl, bgg, -⟩ := hgg.out
  obtain ⟨nsl, csl, rfl, bsl, -⟩ := hsl.out
  obtain ⟨ne1, ce1, rfl, be1, -⟩ := he1.out
  obtain ⟨ne2, ce2, rfl, be2, -⟩ := he2.out
  obtain ⟨ne3, ce3, rfl, be3, -⟩ := he3.out
  obtain ⟨ne4, ce4, rfl, be4, -⟩ := he4.out
  obtain ⟨nry, cry, rfl, bry, -⟩ := hry.out
  obtain ⟨na1, ca1, rfl, ba1, -⟩ := ha1.out
  obtain ⟨na2, ca2, rfl, ba2, -⟩ := ha2.out
  obtain ⟨nb1, cb1, rfl, bb1, -⟩ := hb1.out
  obtain ⟨nb2, cb2, rfl, bb2, -⟩ := hb2.out
  obtain ⟨nli, cli, rfl, bli, -⟩ := hli.out
  obtain ⟨nol, col, rfl, bol, -⟩ := hol.out
  obtain ⟨nos, cos, rfl, bos, -⟩ := hos.out
  obtain ⟨not, cot, rfl, bot, -⟩ := hot.out
  obtain ⟨nls, cls, rfl, bls, -⟩ := hls.out
  obtain ⟨nr1, cr1, rfl, br1, -⟩ := hr1.out
  obtain ⟨nr2, cr2, rfl, br2, -⟩ := hr2.out
  obtain ⟨nq1, cq1, rfl, bq1, -⟩ := hq1.out
  obtain ⟨nq2, cq2, rfl, bq2, -⟩ := hq2.out
  have hmx : maxLen = 9223372036854775807 := rfl
  simp only [Clm.cells]
  simp only [Clm.cells] at hcl
  refine ct_of (hS 5 (by decide)) fn5 ?_
  refine ⟨by omega, ?_⟩
  refine ⟨_, rfl, ?_⟩
  refine callq rfl hcl (by omega) ?_
  rintro _ ⟨c, rfl⟩
  cases c
  · exact endq rfl ⟨_, rfl⟩
  refine ⟨_, rfl, ?_⟩
  refine ⟨fun h => ?_, fun h => ?_⟩
  · refine ⟨_, rfl, ?_⟩
    refine ⟨fun h => ?_, fun h => ?_⟩
    · exact endq rfl ⟨_, rfl⟩
    · exact endq rfl ⟨_, rfl⟩
  · exact endq rfl ⟨_, rfl⟩
theorem nil_law (hS : OldN S) (h4 : Ct (ctx.plus S) 4 [] 0 fun r => r = .bool true) (x : Clm) (ho : ClmOk x) {a b s : ByteArray} {num : Int} : Ct (ctx.plus S) 3 [.agg (.str a :: .str b :: pn num :: x.cells), .str s] 50000 fun r => r = .bool true := by
  have hLit := little_ct S hS x ho (num := num) (a := a) (b := b)
  have hAdd := add_ct S hS x ho (a := a) (b := b) (num := num)
  obtain ⟨kd, ct, tp, ta, tb, td, tc, sd, sC, sD, d1, d2, d3, d4, fp, fa, fb, fd, ff, fg, gp, ga, gb, gd, gf, gg, sl, e1, e2, e3, e4, ry, a1, a2, b1, b2, li, wd, ol, os, ot, ls, r1, r2, q1, q2⟩ := x
  obtain ⟨htp, htc, hsC, hsD, hd1, hd2, hd3, hd4, hfp, hff, hfg, hgp, hgf, hgg, hsl, he1, he2, he3, he4, hry, ha1, ha2, hb1, hb2, hli, hwd, hol, hos, hot, hls, hr1, hr2, hq1, hq2⟩ := ho
  simp only at htp htc hsC hsD hd1 hd2 hd3 hd4 hfp hff hfg hgp hgf hgg hsl he1 he2 he3 he4 hry ha1 ha2 hb1 hb2 hli hwd hol hos hot hls hr1 hr2 hq1 hq2
  obtain ⟨ntp, ctp, rfl, btp, -⟩ := htp.out
  obtain ⟨ntc, ctc, rfl, btc, -⟩ := htc.out
  obtain ⟨nsC, csC, rfl, bsC, -⟩ := hsC.out
  obtain ⟨nsD, csD, rfl, bsD, -⟩ := hsD.out
  obtain ⟨nd1, cd1, rfl, bd1, -⟩ := hd1.out
  obtain ⟨nd2, cd2, rfl, bd2, -⟩ := hd2.out
  obtain ⟨nd3, cd3, rfl, bd3, -⟩ := hd3.out
  obtain ⟨nd4, cd4, rfl, bd4, -⟩ := hd4.out
  obtain ⟨nfp, cfp, rfl, bfp, -⟩ := hfp.out
  obtain ⟨nff, cff, rfl, bff, -⟩ := hff.out
  obtain ⟨nfg, cfg, rfl, bfg, -⟩ := hfg.out
  obtain ⟨ngp, cgp, rfl, bgp, -⟩ := hgp.out
  obtain ⟨ngf, cgf, rfl, bgf, -⟩ := hgf.out
  obtain ⟨ngg, cgg, rfl, bgg, -⟩ := hgg.out
  obtain ⟨nsl, csl, rfl, bsl, -⟩ := hsl.out
  obtain ⟨ne1, ce1, rfl, be1, -⟩ := he1.out
  obtain ⟨ne2, ce2, rfl, be2, -⟩ := he2.out
  obtain ⟨ne3, ce3, rfl, be3, -⟩ := he3.out
  obtain ⟨ne4, ce4, rfl, be4, -⟩ := he4.out
  obtain ⟨nry, cry, rfl, bry, -⟩ := hry.out
  obtain ⟨na1, ca1, rfl, ba1, -⟩ := ha1.out
  obtain ⟨na2, ca2, rfl, ba2, -⟩ := ha2.out
  obtain ⟨nb1, cb1, rfl, bb1, -⟩ := hb1.out
  obtain ⟨nb2, cb2, rfl, bb2, -⟩ := hb2.out
  obtain ⟨nli, cli, rfl, bli, -⟩ := hli.out
  obtain ⟨nol, col, rfl, bol, -⟩ := hol.out
  obtain ⟨nos, cos, rfl, bos, -⟩ := hos.out
  obtain ⟨not, cot, rfl, bot, -⟩ := hot.out
  obtain ⟨nls, cls, rfl, bls, -⟩ := hls.out
  obtain ⟨nr1, cr1, rfl, br1, -⟩ := hr1.out
  obtain ⟨nr2, cr2, rfl, br2, -⟩ := hr2.out
  obtain ⟨nq1, cq1, rfl, bq1, -⟩ := hq1.out
  obtain ⟨nq2, cq2, rfl, bq2, -⟩ := hq2.out
  have hmx : maxLen = 9223372036854775807 := rfl
  simp only [Clm.cells]
  simp only [Clm.cells] at hLit hAdd
  refine ct_of (hS 3 (by decide)) fn3 ?_
  refine ⟨by omega, ?_⟩
  refine callq rfl h4 (by omega) ?_
  rintro _ rfl
  refine ⟨_, rfl, ?_⟩
  refine callq rfl hLit (by omega) ?_
  rintro _ ⟨c, rfl⟩
  cases c
  · exact endq rfl rfl
  refine ⟨_, rfl, ?_⟩
  refine callq rfl hAdd (by omega) ?_
  rintro _ rfl
  refine callq rfl (new_ct S hS) (by omega) ?_
  rintro _ rfl
  refine callq rfl (merge1_ct S hS) (by omega) ?_
  rintro _ rfl
  refine callq rfl (new_ct S hS) (by omega) ?_
  rintro _ rfl
  refine callq rfl (merge2_ct S hS) (by omega) ?_
  rintro _ rfl
  refine ⟨fun _ => ?_, fun h => absurd rfl h⟩
  refine callq rfl (results_ct S hS) (by omega) ?_
  rintro _ rfl
  refine ⟨fun _ => ?_, fun h => absurd rfl h⟩
  refine callq rfl (named_ct S hS) (by omega) ?_
  rintro _ rfl
  refine ⟨fun _ => ?_, fun h => absurd rfl h⟩
  refine callq rfl (kinds_ct S hS) (by omega) ?_
  rintro _ rfl
  refine ⟨fun _ => ?_, fun h => absurd rfl h⟩
  refine callq rfl (journal_ct S hS) (by omega) ?_
  rintro _ rfl
  refine ⟨true, beq_iff_eq.2 rfl, ?_⟩
  refine ⟨fun _ => ?_, fun h => absurd rfl h⟩
  refine ⟨fun _ => ?_, fun h => absurd rfl h⟩
  refine callq rfl (do_ct S hS) (by omega) ?_
  rintro _ rfl
  refine ⟨true, beq_iff_eq.2 rfl, ?_⟩
  refine callq rfl (arch_ct S hS) (by omega) ?_
  rintro _ rfl
  exact endq rfl rfl
end Go.PI
/- THE LAW, CALLED. -/
open Go.Proofs
namespace Go.PI
open Go.ChangeShapes Go.WideShapes Go.ChangeAt Go.RowKit
set_option maxRecDepth 100000
set_option maxHeartbeats 4000000
theorem law_callsN {W : World} {μ : M} {H : Heap} {f : FuncId} {c : FI} (hf : ctxN.fn f = some c) (i : Imp W μ H) {args : Array Value} {avs : List AV} {ps : List PV} {d : Nat} (hv : VRs μ avs args.toList) (hr : All2 (RelC H fun _ => False) ps avs) (hd : H.n + d < lim)
    (hct : Ct ctxN f ps d fun r => r = .bool true) : Calls Tryz.prog f args W fun e w' => e = .returned (.bool true) ∧ Below W.heap.size W w' := by
  have law : Cl ctxN f avs H fun r _ => r = .bool true := by
    refine (hct H (fun _ => False) avs (fun b h => h.elim) hr hd).mono ?_
    rintro r H' ⟨q, rfl, hq, -⟩
    cases hq
    rfl
  obtain ⟨k, r, H', hc, rfl⟩ := law
  have hC := ctxN_fine
  rcases callF_sim hC (sound hC k) hc (args := args) hv i.hr with ⟨u, w', hrun, -⟩ | ⟨-, hcalls⟩
  · exfalso
    obtain ⟨fn', f1, f2, f3, f4, f5⟩ := hC.fn f _ hf
    have f5' : ¬ fn'.name = "runtime.NumGoroutine" := by simpa using f5
    simp [callFunc, f1, f5', f4] at hrun
  · have hw : Calls Tryz.prog f args W fun e w' => ∃ u, e = .returned u ∧ EffR μ H W (.bool true) H' u w' := callsIn_wide.1 (hcalls Fence.wide 0 ⟨fun _ => trivial, rfl, rfl⟩)
    refine hw.mono ?_
    rintro e w' ⟨u, rfl, hE⟩
    refine ⟨?_, below_of i.no hE⟩
    obtain ⟨μ', hv, -⟩ := hE
    rw [hv.bool_inv]
theorem res_is : sRes.is Tryz.prog 53 = true := by kernel_rfl
theorem res_cost : Nat.ble (sRes.cost + 100001) lim = true := by kernel_rfl
theorem nil_calls {H : Type} {enc : TypeId × Value → H} {W : World} {fu : Nat} {cs : Array Value} {s : ByteArray} {y : DataW H × List MemPlace} (h : DataW.trod enc Tryz.prog W 0 (fun _ => true) true fu 53 cs.toList = some y) :
    Calls Tryz.prog 3 #[.agg cs, .string s] W fun e w' => e = .returned (.bool true) ∧ Below W.heap.size W w' := by
  have hz : (⟨0, .nil⟩ : Heap).n = 0 := rfl
  have hc := Nat.le_of_ble_eq_true res_cost
  obtain ⟨μ1, H1, avs1, ps, i1, le1, k1, n1, m1, va, ra, hq⟩ := lay_any sRes fu 53 cs.toList y res_is h _ _ (imp0 W) (by omega)
  obtain ⟨_, _, rfl, ⟨a, -, rfl⟩, _, _, rfl, ⟨b, -, rfl⟩, _, _, rfl, ⟨num, -, rfl⟩, _, _, rfl, hcl, hnil⟩ := hq
  obtain ⟨x, rfl, ho⟩ := Has.claim hcl
  have hnil : _ = [] := hnil
  subst hnil
  rw [List.append_nil] at ra
  exact law_callsN (f := 3) (c := c3) fn3 i1 (.cons (.agg va) (.cons (.str _) .nil)) (.cons (.agg ra) (.cons (.str _) .nil)) (by omega) (nil_law SN oldN hN4 x ho)
end Go.PI
