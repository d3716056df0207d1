/- Own work of the verifier: PiRowG PiImp CoArg CoH CoI CoJ. -/
import Derived.Test.YtdflpkkgjppmgaaGreatCfBL
import Derived.ProofKit
import Derived.LaidMore
import Derived.OpenShut
import Derived.Stop.Joined
import Derived.Below
import Derived.Test.YtdflpkkgjppmgaaGreatCfAP
import Derived.Test.YtdflpkkgjppmgaaGreatCfBO
import Derived.Test.YtdflpkkgjppmgaaGreatCfBM
import Derived.Lib.SmallJoins
import Derived.ChangeSlices
set_option linter.all false
set_option exponentiation.threshold 3000
set_option linter.deprecated false
/- FROM THE INTERPRETER's WORD TO A ROW. -/
namespace Go.PI
open Go.ChangeShapes Go.WideShapes Go.ChangeAt Go.RowKit
theorem post_of_below {H : Type} {enc : TypeId × Value → H} {P : Program} {f : Func} {s : ChangeSpec} {apart fresh handsOn again : Bool} {W W' : World} {args : Array Value} {v : Value} {ds gs : List (DataW H)} {before pa pv : List MemPlace}
    (hW : DataW.Whole enc P f.params.toList s.vars apart W args.toList ds gs before)
    (hres : ∀ (b : Nat) (sp : Nat → Bool) (hd : Bool), DataW.TrodAll enc P W' b sp hd f.resultTypes.toList (v.resultList f.resultTypes.size) (s.fn H (ds ++ gs)).results [])
    (hargs : ∀ sp : Nat → Bool, (∀ p ∈ before, sp p.block = true) → DataW.TrodAll enc P W' 0 sp true f.params.toList args.toList (s.fn H (ds ++ gs)).args pa)
    (hvars : ∀ sp : Nat → Bool, (∀ p ∈ before, sp p.block = true) → DataW.TrodVars enc P W' sp s.vars (s.fn H (ds ++ gs)).vars pv)
    (hps : before = pa ++ pv) (hB : Below W.heap.size W W')
    (hok : ∀ (j : Nat) (t : TypeId) (r : Value), f.resultTypes[j]? = some t → (v.resultList f.resultTypes.size)[j]? = some r → Value.okWide P W' .any 0 t r) :
    s.post enc P f apart fresh handsOn again W args v W' := by
  have hold : ∀ p ∈ before, (fun b => decide (b < W.heap.size)) p.block = true := fun p hp => by simpa using hW.lt p hp
  have hlt := fun p hp => hW.lt p hp
  refine ⟨ds, gs, before, [], pa, pv, hW, hres _ _ _, hargs _ hold, hvars _ hold, World.keptBut_mono (fun p hp => ⟨hp, ?_⟩) (hB.frame (· ∈ before)), fun _ => ?_⟩
  · rw [hps, List.mem_append] at hp
    exact Or.inr hp
  · obtain ⟨_, _, _, _, _, hz, hn⟩ := hW
    refine ⟨hok, _, _, ([] ++ pa) ++ pv, ⟨[] ++ pa, pv, trodAll_append (hargs _ (fun _ _ => rfl)) (hres _ _ _), hvars _ (fun _ _ => rfl), rfl, ?_, ?_⟩, ?_⟩
    · intro b off hp
      have hp2 := hz b off (by rw [hps]; simpa using hp)
      have hp3 := hlt _ (by rw [hps]; simpa using hp)
      rw [hB.frozen (p := ⟨b, off, none⟩) hp3]
      exact hp2
    · intro ha
      have := hn ha
      rw [hps] at this
      simpa using this
    · intro p hp _
      rw [hps]
      simpa using hp
end Go.PI
/- ARGUMENTS: slices of integers that came in, as blocks that are only read. -/
namespace Go.PI
open Go.ChangeShapes Go.WideShapes Go.ChangeAt Go.RowKit
def NoOwn (H : Heap) : Prop := ∀ A, (H.get A).own = false
structure Imp (W : World) (μ : M) (H : Heap) : Prop where
  hr : HR μ H W
  no : NoOwn H
theorem below_of {μ : M} {H H' : Heap} {w w' : World} {v : AV} {u : Value} (hno : NoOwn H) (h : EffR μ H w v H' u w') : Below w.heap.size w w' := by
  obtain ⟨μ', -, -, hf⟩ := h
  refine ⟨hf.os, hf.tape, hf.output, hf.size, fun k hk => (hf.keep k hk ?_).1⟩
  rintro ⟨A, a, ho, -⟩
  rw [hno A] at ho
  cases ho
theorem imp0 (W : World) : Imp W (fun _ => none) ⟨0, .nil⟩ :=
  ⟨⟨by simp [PI.lim], fun _ _ => rfl, fun A bi hl hm => (by cases hm), fun A B a b _ _ _ hm => (by cases hm)⟩, fun A => by unfold Heap.get; simp [Blk.own]⟩
theorem Imp.push {W : World} {μ : M} {H : Heap} (h : Imp W μ H) (hn : H.n < lim) {bi : BI} {b : Blk} (ho : b.own = false) (hb : b.live = true → bi.c < W.heap.size ∧ BlkR (μ.set H.n bi) W bi b) :
    Imp W (μ.set H.n bi) (H.push b) ∧ M.le μ (μ.set H.n bi) := by
  have hle : M.le μ (μ.set H.n bi) := M.le_set (h.hr.dom _ (Nat.le_refl _))
  have hp := Heap.get_push (H := H) (b := b) hn
  refine ⟨⟨⟨?_, ?_, ?_, ?_⟩, ?_⟩, hle⟩
  · show H.n + 1 ≤ lim
    omega
  · intro A hA
    have hA : H.n + 1 ≤ A := hA
    unfold M.set
    rw [if_neg (by omega)]
    exact h.hr.dom A (by omega)
  · intro A bj hl hm
    rw [hp] at hl ⊢
    by_cases hA : A = H.n
    · subst hA
      rw [if_pos rfl] at hl ⊢
      rw [M.set_self] at hm
      cases hm
      exact hb hl
    · rw [if_neg hA] at hl ⊢
      unfold M.set at hm
      rw [if_neg hA] at hm
      obtain ⟨h1, h2⟩ := h.hr.blk A bj hl hm
      exact ⟨h1, h2.mono hle rfl⟩
  · intro A B a b' hAB hA
    rw [hp] at hA
    by_cases hA' : A = H.n
    · rw [if_pos hA', ho] at hA; cases hA
    · rw [if_neg hA', h.no A] at hA; cases hA
  · intro A
    rw [hp]
    by_cases hA : A = H.n
    · rw [if_pos hA]; exact ho
    · rw [if_neg hA]; exact h.no A
def slen : AV → Option Nat
  | .nils | .sle => some 0
  | .sl _ _ n _ | .slu _ _ n _ => some n
  | _ => none
def Seen (H : Heap) (v : AV) (xs : List Int) : Prop := slen v = some xs.length ∧ (xs.length ≤ 1000 → Sl H v xs)
theorem Seen.mono {H H' : Heap} {v : AV} {xs : List Int} (h : Seen H v xs) (k : ∀ A, A < H.n → H'.get A = H.get A) : Seen H' v xs := ⟨h.1, fun hl => (h.2 hl).mono k⟩
end Go.PI
/- THE ARGUMENTS OF THE LAWS. -/
open Go.Proofs
namespace Go.PI
open Go.ChangeShapes Go.WideShapes Go.ChangeAt Go.RowKit
open IM
set_option maxRecDepth 100000
set_option maxHeartbeats 4000000
theorem law_calls {W : World} {μ : M} {H : Heap} {f : FuncId} {c : FI} (hf : ctxA.fn f = some c) (i : Imp W μ H) {args : Array Value} {avs : List AV} {ps : List PV} {d : Nat} (hv : VRs μ avs args.toList) (hr : All2 (RelC H fun _ => False) ps avs) (hd : H.n + d < lim)
    (hct : Ct ctxA f ps d fun r => r = .bool true) : Calls Tryz.prog f args W fun e w' => e = .returned (.bool true) ∧ Below W.heap.size W w' := by
  have law : Cl ctxA f avs H fun r _ => r = .bool true := by
    refine (hct H (fun _ => False) avs (fun b h => h.elim) hr hd).mono ?_
    rintro r H' ⟨q, rfl, hq, -⟩
    cases hq
    rfl
  obtain ⟨k, r, H', hc, rfl⟩ := law
  have hC := ctxA_fine
  rcases callF_sim hC (sound hC k) hc (args := args) hv i.hr with ⟨u, w', hrun, -⟩ | ⟨-, hcalls⟩
  · exfalso
    obtain ⟨fn', f1, f2, f3, f4, f5⟩ := hC.fn f _ hf
    have f5' : ¬ fn'.name = "runtime.NumGoroutine" := by simpa using f5
    simp [callFunc, f1, f5', f4] at hrun
  · have hw : Calls Tryz.prog f args W fun e w' => ∃ u, e = .returned u ∧ EffR μ H W (.bool true) H' u w' := callsIn_wide.1 (hcalls Fence.wide 0 ⟨fun _ => trivial, rfl, rfl⟩)
    refine hw.mono ?_
    rintro e w' ⟨u, rfl, hE⟩
    refine ⟨?_, below_of i.no hE⟩
    obtain ⟨μ', hv, -⟩ := hE
    rw [hv.bool_inv]
end Go.PI
/- FRACTIONS of the reference; the formulas of both. -/
open Go.Proofs
namespace Go.PI
open IM
set_option maxRecDepth 20000
set_option maxHeartbeats 4000000
variable (S : FuncId → Option (List AV → Heap → Option (AV × Heap)))
theorem fn63 : ctx.fn 63 = some c63 := by kernel_rfl
theorem fn93 : ctx.fn 93 = some c93 := by kernel_rfl
theorem rquot_ct (hS : OldO S) {xs ys : List Int} {X Y : Int} (hx : Rw xs X) (hy : Rw ys Y) (lX : (digits X).length ≤ 18) (lY : (digits Y).length ≤ 18) (hY : Y ≠ 0) : Ct (ctx.plus S) 63 [pIs xs, pIs ys] 20000000 fun r => r = pI (X / Y) := by
  refine ct_of (hS 63 (by decide)) fn63 ?_
  refine callq rfl (rdivmod_ct S (oldR_of S hS) hx hy lX lY hY) (by omega) ?_
  rintro _ rfl
  exact endq rfl rfl
theorem rrate_ct (hS : OldO S) {xs ys : List Int} {X Y : Int} (hx : Rw xs X) (hy : Rw ys Y) (hX : -10000000000000000 < X ∧ X < 10000000000000000) (hY : 0 < Y ∧ Y < 10000000000000000) : Ct (ctx.plus S) 93 [pIs xs, pIs ys] 16100000000 fun r => r = pF (X / Int.gcd X Y) (Y / Int.gcd X Y) := by
  have hg : Int.gcd X Y ≠ 0 := fun h => by rw [Int.gcd_eq_zero_iff] at h; omega
  have hgl : (Int.gcd X Y : Int) ≤ Y := Int.le_of_dvd hY.1 (Int.gcd_dvd_right _ _)
  have lx := dig_small hX
  have ly := dig_small (n := Y) (by omega)
  have lg := dig_small (n := Int.gcd X Y) (by omega)
  refine ct_of (hS 93 (by decide)) fn93 ?_
  refine ⟨by omega, ?_⟩
  refine callq rfl (rgcd_ct S (oldR_of S hS) hx hy (by omega) (by omega)) (by omega) ?_
  rintro _ rfl
  refine callq rfl (rquot_ct S hS (ys := digits (Int.gcd X Y)) hx (Rw.of (by omega)) (by omega) (by omega) (by omega)) (by omega) ?_
  rintro _ rfl
  refine callq rfl (rquot_ct S hS (ys := digits (Int.gcd X Y)) hy (Rw.of (by omega)) (by omega) (by omega) (by omega)) (by omega) ?_
  rintro _ rfl
  refine part2 fzL fzL ⟨_, rfl, ?_⟩
  refine ⟨45, _, rfl, ⟨rfl, by decide, rfl⟩, _, rfl, _, rfl, ?_⟩
  refine ⟨_, rfl, ?_⟩
  exact endq rfl rfl
theorem fn47 : ctx.fn 47 = some c47 := by kernel_rfl
theorem fn48 : ctx.fn 48 = some c48 := by kernel_rfl
open Classical in
noncomputable def toriV (n : Int) : PV := if 1 ≤ n ∧ n ≤ 1000 then .tup [pF ((sg n.toNat (n.toNat + 1) : Int) / Int.gcd (sg n.toNat (n.toNat + 1)) n) (n / Int.gcd (sg n.toNat (n.toNat + 1)) n), pn 0] else .tup [pF 0 0, pn 2]
theorem digits_zero : digits 0 = [] := by
  have h := len_of (v := 0) (k := 0) (by simp [pw])
  exact List.eq_nil_of_length_eq_zero (by omega)
theorem sg_bd {n : Nat} (h1 : 1 ≤ n) (h2 : n ≤ 1000) : sg n (n + 1) ≤ 1001000 := by
  have := sg_le n (n + 1) (by omega)
  have h3 : (n + 1) * n ≤ 1001 * 1000 := Nat.mul_le_mul (by omega) h2
  omega
theorem tori_ct (hS : OldO S) {n : Int} : Ct (ctx.plus S) 47 [pn n] 6020000 fun r => r = toriV n := by
  refine ct_of (hS 47 (by decide)) fn47 ?_
  refine ⟨by omega, ?_⟩
  refine callq rfl (within_ct S hS) (by omega) ?_
  rintro _ rfl
  by_cases h : 1 ≤ n ∧ n ≤ 1000
  · rw [decide_eq_true h]
    obtain ⟨m, rfl⟩ : ∃ m : Nat, n = m := ⟨n.toNat, by omega⟩
    have hb := sg_bd (n := m) (by omega) (by omega)
    refine callq rfl (dsum_ct S hS (by omega) (by omega)) (by omega) ?_
    rintro _ rfl
    refine callq rfl (of_ct S (old_of S hS) (hS 78 (by decide)) (by unfold In64; omega)) (by omega) ?_
    rintro _ rfl
    refine callq rfl (of_ct S (old_of S hS) (hS 78 (by decide)) (by unfold In64; omega)) (by omega) ?_
    rintro _ rfl
    refine callq rfl (lowest_ct S hS (by omega) (by omega)) (by omega) ?_
    rintro _ rfl
    refine ⟨45, _, rfl, ⟨rfl, by decide, rfl⟩, _, rfl, _, rfl, ?_⟩
    refine ⟨_, rfl, ?_⟩
    refine endsq rfl ?_
    unfold toriV
    rw [if_pos h]
    rfl
  · rw [decide_eq_false h]
    refine part0 ⟨_, rfl, ?_⟩
    refine ⟨45, _, rfl, ⟨rfl, by decide, rfl⟩, _, rfl, _, rfl, ?_⟩
    refine ⟨_, rfl, ?_⟩
    refine endsq rfl ?_
    unfold toriV
    rw [if_neg h]
    unfold pF pI
    rw [digits_zero]
    rfl
theorem rtori_ct (hS : OldO S) {n : Int} : Ct (ctx.plus S) 48 [pn n] 16200000000 fun r => r = toriV n := by
  refine ct_of (hS 48 (by decide)) fn48 ?_
  refine ⟨by omega, ?_⟩
  refine callq rfl (rwithin_ct S hS) (by omega) ?_
  rintro _ rfl
  by_cases h : 1 ≤ n ∧ n ≤ 1000
  · rw [decide_eq_true h]
    obtain ⟨m, rfl⟩ : ∃ m : Nat, n = m := ⟨n.toNat, by omega⟩
    have hb := sg_bd (n := m) (by omega) (by omega)
    refine callq rfl (rsigma_ct S hS (by omega) (by omega)) (by omega) ?_
    rintro _ rfl
    refine ⟨by omega, part1 fzI ⟨_, rfl, ?_⟩⟩
    refine ⟨by omega, part1 fzI ⟨_, rfl, ?_⟩⟩
    refine cal2 (fz_own (n := 1) (c := 1) (cs' := [pn (sg m (m + 1) : Nat)]) rfl (Nat.le_refl 1) (by decide) rfl) (fz_own (n := 1) (c := 1) (cs' := [pn m]) rfl (Nat.le_refl 1) (by decide) rfl) (rrate_ct S hS (xs := [(sg m (m + 1) : Int)]) (ys := [(m : Int)]) (Rw.one (by omega)) (Rw.one (by omega)) (by omega) (by omega)) (by omega) ?_
    rintro _ rfl
    refine ⟨45, _, rfl, ⟨rfl, by decide, rfl⟩, _, rfl, _, rfl, ?_⟩
    refine ⟨_, rfl, ?_⟩
    refine endsq rfl ?_
    unfold toriV
    rw [if_pos h]
    rfl
  · rw [decide_eq_false h]
    refine part0 ⟨_, rfl, ?_⟩
    refine ⟨45, _, rfl, ⟨rfl, by decide, rfl⟩, _, rfl, _, rfl, ?_⟩
    refine ⟨_, rfl, ?_⟩
    refine endsq rfl ?_
    unfold toriV
    rw [if_neg h]
    unfold pF pI
    rw [digits_zero]
    rfl
end Go.PI
/- THE SQUARES OF PRIMES divided out, by both. -/
open Go.Proofs
namespace Go.PI
open IM
set_option maxRecDepth 20000
set_option maxHeartbeats 4000000
variable (S : FuncId → Option (List AV → Heap → Option (AV × Heap)))
theorem fn100 : ctx.fn 100 = some c100 := by kernel_rfl
theorem sqt_ct (hS : OldO S) {n : Nat} (h1 : 2 ≤ n) (h2 : n ≤ 1000) : Ct (ctx.plus S) 100 [pn n] 0 fun r => r = pn (rr n (n + 1) : Nat) := by
  have hnn : n * n ≤ 1000 * 1000 := Nat.mul_le_mul h2 h2
  refine ct_of (hS 100 (by decide)) fn100 ?_
  have hnI : (n : Int) * n ≤ 1000000 := by rw [← Int.natCast_mul]; omega
  have hnJ : 0 ≤ (n : Int) * n := by rw [← Int.natCast_mul]; omega
  refine ⟨⟨by omega, by omega⟩, ?_⟩
  refine ⟨fun m s => ∃ (q rest prod : Nat) (T : List PV), s = ⟨T, [], 0⟩ ∧ Gt T 37 [(3, pn prod), (4, pn rest), (5, pn q)] ∧ m = n + 1 - q ∧ 2 ≤ q ∧ q ≤ n + 1 ∧ Hid (SqI n q rest prod), ⟨_, ci ⟨2, n, n * n, _, rfl, ⟨rfl, by show pn _ = pn _; rw [Int.natCast_mul], rfl, rfl, trivial⟩, rfl, by omega, by omega, ⟨SqI.start h1⟩⟩⟩, ?_⟩
  rintro m s ⟨q, rest, prod, T, rfl, hT, hm, hq1, hq2, hI⟩
  obtain ⟨J, rfl⟩ := gt_open hT
  clear hT
  have hle : rest ≤ n := Nat.le_of_dvd (by omega) hI.h.dvd
  have hpl : prod ≤ n * n := by rw [hI.h.eq]; exact rr_le (by omega) q
  refine ⟨fun hc => ?_, fun hc => ?_⟩
  · have hqn : q ≤ n := by omega
    have hqq : (q : Int) * q ≤ 1000000 := by have : q * q ≤ 1000 * 1000 := Nat.mul_le_mul (by omega) (by omega); rw [← Int.natCast_mul]; omega
    have hqp : 4 ≤ (q : Int) * q := by have : 2 * 2 ≤ q * q := Nat.mul_le_mul hq1 hq1; rw [← Int.natCast_mul]; omega
    refine ⟨by omega, ?_⟩
    rw [tmod_nat]
    refine ⟨fun h0 => ?_, fun h0 => ?_⟩
    · refine ⟨⟨by omega, by omega⟩, ?_⟩
      exact ⟨_, by omega, ci ⟨q + 1, rest, prod, _, rfl, ⟨rfl, rfl, rfl, by show pn _ = pn _; norm_cast, trivial⟩, rfl, by omega, by omega, ⟨hI.h.skip hq1 (fun hd => h0 (by have := Nat.mod_eq_zero_of_dvd hd; omega))⟩⟩⟩
    · have hd : q ∣ rest := Nat.dvd_of_mod_eq_zero (by omega)
      have e1 : (prod : Int).tdiv ((q : Int) * q) = ((prod / (q * q) : Nat) : Int) := by rw [← Int.natCast_mul, tdiv_nat]
      have e3 : prod / (q * q) * (q * q - 1) ≤ prod := Nat.le_trans (Nat.mul_le_mul_left _ (by omega)) (Nat.div_mul_le_self _ _)
      have e2 : ((prod / (q * q) : Nat) : Int) * ((q : Int) * q - 1) = ((prod / (q * q) * (q * q - 1) : Nat) : Int) := by
        have : 1 ≤ q * q := by have := Nat.mul_le_mul hq1 hq1; omega
        rw [Int.natCast_mul, Int.natCast_sub this, Int.natCast_mul q q]
        rfl
      have e4 : prod / (q * q) ≤ prod := Nat.div_le_self _ _
      refine ⟨⟨by omega, by omega⟩, ?_⟩
      have e5 : In64 ((prod / (q * q) : Nat) : Int) := by
        have h : prod / (q * q) ≤ 1000000 := by omega
        generalize prod / (q * q) = X at h
        unfold In64; omega
      have e6 : In64 ((prod / (q * q) * (q * q - 1) : Nat) : Int) := by
        have h : prod / (q * q) * (q * q - 1) ≤ 1000000 := by omega
        generalize prod / (q * q) * (q * q - 1) = X at h
        unfold In64; omega
      refine ⟨⟨by omega, by rw [e1]; exact e5⟩, ?_⟩
      refine ⟨⟨by omega, by omega⟩, ?_⟩
      refine ⟨⟨by omega, by omega⟩, ?_⟩
      refine ⟨by rw [e1, e2]; exact e6, ?_⟩
      refine ⟨fun m s => ∃ (r : Nat) (T : List PV), s = ⟨T, [], 0⟩ ∧ Gt T 37 [(3, pn (prod / (q * q) * (q * q - 1) : Nat)), (4, pn r), (5, pn q)] ∧ m = r ∧ Hid (SqJ n q rest prod r), ⟨_, ci ⟨rest, _, rfl, ⟨rfl, by show pn _ = pn _; rw [e1, e2], rfl, rfl, trivial⟩, rfl, ⟨SqJ.start hI.h⟩⟩⟩, ?_⟩
      rintro m s ⟨r, T, rfl, hT, hm2, hJ⟩
      obtain ⟨J, rfl⟩ := gt_open hT
      clear hT
      have hrl : r ≤ rest := Nat.le_of_dvd hI.h.pos hJ.h.dvd
      refine ⟨by omega, ?_⟩
      rw [tmod_nat]
      refine ⟨fun h0 => ?_, fun h0 => ?_⟩
      · have hdr : q ∣ r := Nat.dvd_of_mod_eq_zero (by omega)
        obtain ⟨hJ', hlt⟩ := hJ.h.next hq1 (hI.h.prime hd) hdr
        have hdl := Nat.div_le_self r q
        have e7 : In64 ((r / q : Nat) : Int) := by
          have h : r / q ≤ 1000 := by omega
          generalize r / q = X at h
          unfold In64; omega
        refine ⟨⟨by omega, by rw [tdiv_nat]; exact e7⟩, ?_⟩
        exact ⟨_, by omega, ci ⟨r / q, _, rfl, ⟨rfl, rfl, by show pn _ = pn _; rw [tdiv_nat], rfl, trivial⟩, rfl, ⟨hJ'⟩⟩⟩
      · refine ⟨⟨by omega, by omega⟩, ?_⟩
        exact ⟨_, by omega, ci ⟨q + 1, r, _, _, rfl, ⟨rfl, rfl, rfl, by show pn _ = pn _; norm_cast, trivial⟩, rfl, by omega, by omega, ⟨hJ.h.done hq1 hI.h hd (fun hdr => h0 (by have := Nat.mod_eq_zero_of_dvd hdr; omega))⟩⟩⟩
  · have hr : rr n (n + 1) = prod := by
      have := hI.h.stay (by omega) hq1 (n + 1 - q)
      rwa [show q + (n + 1 - q) = n + 1 by omega] at this
    exact endq rfl (by rw [hr]; rfl)
theorem fn50 : ctx.fn 50 = some c50 := by kernel_rfl
theorem fn49 : ctx.fn 49 = some c49 := by kernel_rfl
open Classical in
noncomputable def primV (n : Int) : PV := if 2 ≤ n ∧ n ≤ 1000 then .tup [pI (((3 * (n.toNat - 2) * rr n.toNat (n.toNat + 1)) / 8 : Nat) : Int), pn 0] else .tup [.lst 0 [], pn 2]
theorem prim_ct (hS : OldO S) {n : Int} : Ct (ctx.plus S) 49 [pn n] 100 fun r => r = primV n := by
  refine ct_of (hS 49 (by decide)) fn49 ?_
  refine callq rfl (within_ct S hS) (by omega) ?_
  rintro _ rfl
  by_cases h : 2 ≤ n ∧ n ≤ 1000
  · rw [decide_eq_true h]
    obtain ⟨m, rfl⟩ : ∃ m : Nat, n = m := ⟨n.toNat, by omega⟩
    have hb := rr_le (n := m) (by omega) (m + 1)
    have hb2 : m * m ≤ 1000 * 1000 := Nat.mul_le_mul (by omega) (by omega)
    have hb3 : 3 * (m - 2) * rr m (m + 1) ≤ 3000 * 1000000 := Nat.mul_le_mul (by omega) (by omega)
    have e1 : 3 * ((m : Int) - 2) = ((3 * (m - 2) : Nat) : Int) := by omega
    refine ⟨⟨by omega, by omega⟩, ?_⟩
    refine ⟨⟨by omega, by omega⟩, ?_⟩
    refine callq rfl (sqt_ct S hS (by omega) (by omega)) (by omega) ?_
    rintro _ rfl
    rw [e1]
    refine ⟨⟨by rw [← Int.natCast_mul]; omega, by rw [← Int.natCast_mul]; omega⟩, ?_⟩
    rw [show ((3 * (m - 2) : Nat) : Int) * (rr m (m + 1) : Nat) = ((3 * (m - 2) * rr m (m + 1) : Nat) : Int) from (Int.natCast_mul _ _).symm]
    have e2 : ((3 * (m - 2) * rr m (m + 1) : Nat) : Int).tdiv 8 = ((3 * (m - 2) * rr m (m + 1) / 8 : Nat) : Int) := tdiv_nat (b := 8)
    refine ⟨⟨by decide, by rw [e2]; unfold In64; omega⟩, ?_⟩
    rw [e2]
    refine callq rfl (of_ct S (old_of S hS) (hS 78 (by decide)) (by unfold In64; omega)) (by omega) ?_
    rintro _ rfl
    refine endsq rfl ?_
    unfold primV
    rw [if_pos h]
    rfl
  · rw [decide_eq_false h]
    have hf : PV.tup [.lst 0 [], pn 2] = primV n := by unfold primV; rw [if_neg h]
    exact ⟨⟨[], hf⟩⟩
theorem nodiv_next {q d : Nat} (h : NoDiv q d) (hd : ¬ d ∣ q) : NoDiv q (d + 1) := fun x h1 h2 => by
  by_cases e : x = d
  · subst e; exact hd
  · exact h x h1 (by omega)
theorem nodiv_less {q d : Nat} (h : NoDiv q (d + 1)) : NoDiv q d := fun x h1 h2 => h x h1 (by omega)
open Classical in
theorem rprim_ct (hS : OldO S) {n : Int} : Ct (ctx.plus S) 50 [pn n] 1100 fun r => r = primV n := by
  refine ct_of (hS 50 (by decide)) fn50 ?_
  refine callq rfl (rwithin_ct S hS) (by omega) ?_
  rintro _ rfl
  by_cases h : 2 ≤ n ∧ n ≤ 1000
  · rw [decide_eq_true h]
    obtain ⟨m, rfl⟩ : ∃ m : Nat, n = m := ⟨n.toNat, by omega⟩
    have hb2 : m * m ≤ 1000 * 1000 := Nat.mul_le_mul (by omega) (by omega)
    have hb3 : ∀ q, 3 * (m - 2) * rr m q ≤ 3000 * 1000000 := fun q => Nat.mul_le_mul (by omega) (by have := rr_le (n := m) (by omega) q; omega)
    have e1 : 3 * ((m : Int) - 2) = ((3 * (m - 2) : Nat) : Int) := by omega
    have e2 : 3 * ((m : Int) - 2) * m * m = ((3 * (m - 2) * rr m 2 : Nat) : Int) := by
      have : rr m 2 = m * m := by
        show (if 2 ≤ 1 ∧ _ then _ else (if 2 ≤ 0 ∧ _ then _ else m * m)) = m * m
        rw [if_neg (by omega), if_neg (by omega)]
      rw [this, e1, ← Nat.mul_assoc]
      rfl
    have e3 : In64 (3 * ((m : Int) - 2) * m) := by
      have : 3 * (m - 2) * m ≤ 3000 * 1000 := Nat.mul_le_mul (by omega) (by omega)
      rw [e1, ← Int.natCast_mul]
      unfold In64; omega
    have e4 : ∀ q, In64 ((3 * (m - 2) * rr m q : Nat) : Int) := fun q => by
      have := hb3 q
      generalize 3 * (m - 2) * rr m q = X at this
      unfold In64; omega
    refine ⟨⟨by omega, by omega⟩, ?_⟩
    refine ⟨⟨by omega, by omega⟩, ?_⟩
    refine ⟨e3, ?_⟩
    refine ⟨by rw [e2]; exact e4 2, ?_⟩
    refine ⟨fun mm s => ∃ (q : Nat) (T : List PV), s = ⟨T, [], 0⟩ ∧ Gt T 54 [(0, pn m), (4, pn (3 * (m - 2) * rr m q : Nat)), (5, pn q)] ∧ mm = m + 1 - q ∧ 2 ≤ q ∧ q ≤ m + 1, ⟨_, ci ⟨2, _, rfl, ⟨rfl, rfl, by show pn _ = pn _; rw [e2], rfl, trivial⟩, rfl, by omega, by omega⟩⟩, ?_⟩
    rintro mm s ⟨q, T, rfl, hT, hm, hq1, hq2⟩
    obtain ⟨J, rfl⟩ := gt_open hT
    clear hT
    refine ⟨fun hc => ?_, fun hc => ?_⟩
    · have hqm : q ≤ m := by omega
      refine ⟨by omega, ?_⟩
      rw [tmod_nat]
      refine ⟨fun h0 => ?_, fun h0 => ?_⟩
      all_goals
        refine ⟨fun m2 s => ∃ (d : Nat) (T : List PV), s = ⟨T, [], 0⟩ ∧ Gt T 54 [(0, pn m), (4, pn (3 * (m - 2) * rr m q : Nat)), (5, pn q), (6, .bool (decide (q ∣ m ∧ NoDiv q d))), (7, pn d)] ∧ m2 = q - d ∧ 2 ≤ d ∧ d ≤ q, ⟨_, ci ⟨2, _, rfl, ⟨rfl, rfl, rfl, rfl, ?_, rfl, trivial⟩, rfl, by omega, by omega⟩⟩, ?_⟩
      · show PV.bool true = PV.bool _
        rw [decide_eq_true ⟨Nat.dvd_of_mod_eq_zero (by omega), fun x h1 h2 => by omega⟩]
      · rintro m2 s ⟨d, T, rfl, hT, hm2, hd1, hd2⟩
        obtain ⟨J, rfl⟩ := gt_open hT
        clear hT
        refine ⟨fun hlt => ?_, fun hge => ?_⟩
        · by_cases hp : q ∣ m ∧ NoDiv q d
          · rw [decide_eq_true hp]
            refine ⟨by omega, ?_⟩
            rw [tmod_nat]
            refine ⟨fun h1 => ?_, fun h1 => ?_⟩
            · refine ⟨⟨by omega, by omega⟩, ?_⟩
              refine ⟨_, by omega, ci ⟨d + 1, _, rfl, ⟨rfl, rfl, rfl, rfl, ?_, by show pn _ = pn _; norm_cast, trivial⟩, rfl, by omega, by omega⟩⟩
              show PV.bool true = PV.bool _
              rw [decide_eq_true ⟨hp.1, nodiv_next hp.2 (fun hh => h1 (by have := Nat.mod_eq_zero_of_dvd hh; omega))⟩]
            · refine ⟨⟨by omega, by omega⟩, ?_⟩
              refine ⟨_, by omega, ci ⟨d + 1, _, rfl, ⟨rfl, rfl, rfl, rfl, ?_, by show pn _ = pn _; norm_cast, trivial⟩, rfl, by omega, by omega⟩⟩
              show PV.bool false = PV.bool _
              rw [decide_eq_false (fun hh => hh.2 d (by omega) (by omega) (Nat.dvd_of_mod_eq_zero (by omega)))]
          · rw [decide_eq_false hp]
            refine ⟨⟨by omega, by omega⟩, ?_⟩
            refine ⟨_, by omega, ci ⟨d + 1, _, rfl, ⟨rfl, rfl, rfl, rfl, ?_, by show pn _ = pn _; norm_cast, trivial⟩, rfl, by omega, by omega⟩⟩
            show PV.bool false = PV.bool _
            rw [decide_eq_false (fun hh => hp ⟨hh.1, nodiv_less hh.2⟩)]
        · have e : d = q := by omega
          subst e
          by_cases hp : d ∣ m ∧ NoDiv d d
          · rw [decide_eq_true hp]
            have hqq : (d : Int) * d ≤ 1000000 := by have : d * d ≤ 1000 * 1000 := Nat.mul_le_mul (by omega) (by omega); rw [← Int.natCast_mul]; omega
            have hqp : 4 ≤ (d : Int) * d := by have : 2 * 2 ≤ d * d := Nat.mul_le_mul hq1 hq1; rw [← Int.natCast_mul]; omega
            have f1 : ((3 * (m - 2) * rr m d : Nat) : Int).tdiv ((d : Int) * d) = ((3 * (m - 2) * rr m d / (d * d) : Nat) : Int) := by rw [← Int.natCast_mul d d, tdiv_nat]
            have f2 : ((3 * (m - 2) * rr m d / (d * d) : Nat) : Int) * ((d : Int) * d - 1) = ((3 * (m - 2) * rr m (d + 1) : Nat) : Int) := by
              rw [← rr_step (by omega) hq1 hp.1 hp.2]
              have : 1 ≤ d * d := by have := Nat.mul_le_mul hq1 hq1; omega
              rw [Int.natCast_mul, Int.natCast_sub this, Int.natCast_mul d d]
              rfl
            have f3 : In64 ((3 * (m - 2) * rr m d / (d * d) : Nat) : Int) := by
              have h := Nat.div_le_self (3 * (m - 2) * rr m d) (d * d)
              have h2 := hb3 d
              generalize 3 * (m - 2) * rr m d / (d * d) = X at h
              generalize 3 * (m - 2) * rr m d = Y at h h2
              unfold In64; omega
            refine ⟨⟨by omega, by omega⟩, ?_⟩
            refine ⟨⟨by omega, by rw [f1]; exact f3⟩, ?_⟩
            refine ⟨⟨by omega, by omega⟩, ?_⟩
            refine ⟨⟨by omega, by omega⟩, ?_⟩
            refine ⟨by rw [f1, f2]; exact e4 (d + 1), ?_⟩
            refine ⟨⟨by omega, by omega⟩, ?_⟩
            exact ⟨_, by omega, ci ⟨d + 1, _, rfl, ⟨rfl, rfl, by show pn _ = pn _; rw [f1, f2], by show pn _ = pn _; norm_cast, trivial⟩, rfl, by omega, by omega⟩⟩
          · rw [decide_eq_false hp]
            refine ⟨⟨by omega, by omega⟩, ?_⟩
            exact ⟨_, by omega, ci ⟨d + 1, _, rfl, ⟨rfl, rfl, by show pn _ = pn _; rw [rr_same hp], by show pn _ = pn _; norm_cast, trivial⟩, rfl, by omega, by omega⟩⟩
      · show PV.bool false = PV.bool _
        rw [decide_eq_false (fun hh => h0 (by have := Nat.mod_eq_zero_of_dvd hh.1; omega))]
      · rintro m2 s ⟨d, T, rfl, hT, hm2, hd1, hd2⟩
        obtain ⟨J, rfl⟩ := gt_open hT
        clear hT
        refine ⟨fun hlt => ?_, fun hge => ?_⟩
        · by_cases hp : q ∣ m ∧ NoDiv q d
          · rw [decide_eq_true hp]
            refine ⟨by omega, ?_⟩
            rw [tmod_nat]
            refine ⟨fun h1 => ?_, fun h1 => ?_⟩
            · refine ⟨⟨by omega, by omega⟩, ?_⟩
              refine ⟨_, by omega, ci ⟨d + 1, _, rfl, ⟨rfl, rfl, rfl, rfl, ?_, by show pn _ = pn _; norm_cast, trivial⟩, rfl, by omega, by omega⟩⟩
              show PV.bool true = PV.bool _
              rw [decide_eq_true ⟨hp.1, nodiv_next hp.2 (fun hh => h1 (by have := Nat.mod_eq_zero_of_dvd hh; omega))⟩]
            · refine ⟨⟨by omega, by omega⟩, ?_⟩
              refine ⟨_, by omega, ci ⟨d + 1, _, rfl, ⟨rfl, rfl, rfl, rfl, ?_, by show pn _ = pn _; norm_cast, trivial⟩, rfl, by omega, by omega⟩⟩
              show PV.bool false = PV.bool _
              rw [decide_eq_false (fun hh => hh.2 d (by omega) (by omega) (Nat.dvd_of_mod_eq_zero (by omega)))]
          · rw [decide_eq_false hp]
            refine ⟨⟨by omega, by omega⟩, ?_⟩
            refine ⟨_, by omega, ci ⟨d + 1, _, rfl, ⟨rfl, rfl, rfl, rfl, ?_, by show pn _ = pn _; norm_cast, trivial⟩, rfl, by omega, by omega⟩⟩
            show PV.bool false = PV.bool _
            rw [decide_eq_false (fun hh => hp ⟨hh.1, nodiv_less hh.2⟩)]
        · have e : d = q := by omega
          subst e
          by_cases hp : d ∣ m ∧ NoDiv d d
          · rw [decide_eq_true hp]
            have hqq : (d : Int) * d ≤ 1000000 := by have : d * d ≤ 1000 * 1000 := Nat.mul_le_mul (by omega) (by omega); rw [← Int.natCast_mul]; omega
            have hqp : 4 ≤ (d : Int) * d := by have : 2 * 2 ≤ d * d := Nat.mul_le_mul hq1 hq1; rw [← Int.natCast_mul]; omega
            have f1 : ((3 * (m - 2) * rr m d : Nat) : Int).tdiv ((d : Int) * d) = ((3 * (m - 2) * rr m d / (d * d) : Nat) : Int) := by rw [← Int.natCast_mul d d, tdiv_nat]
            have f2 : ((3 * (m - 2) * rr m d / (d * d) : Nat) : Int) * ((d : Int) * d - 1) = ((3 * (m - 2) * rr m (d + 1) : Nat) : Int) := by
              rw [← rr_step (by omega) hq1 hp.1 hp.2]
              have : 1 ≤ d * d := by have := Nat.mul_le_mul hq1 hq1; omega
              rw [Int.natCast_mul, Int.natCast_sub this, Int.natCast_mul d d]
              rfl
            have f3 : In64 ((3 * (m - 2) * rr m d / (d * d) : Nat) : Int) := by
              have h := Nat.div_le_self (3 * (m - 2) * rr m d) (d * d)
              have h2 := hb3 d
              generalize 3 * (m - 2) * rr m d / (d * d) = X at h
              generalize 3 * (m - 2) * rr m d = Y at h h2
              unfold In64; omega
            refine ⟨⟨by omega, by omega⟩, ?_⟩
            refine ⟨⟨by omega, by rw [f1]; exact f3⟩, ?_⟩
            refine ⟨⟨by omega, by omega⟩, ?_⟩
            refine ⟨⟨by omega, by omega⟩, ?_⟩
            refine ⟨by rw [f1, f2]; exact e4 (d + 1), ?_⟩
            refine ⟨⟨by omega, by omega⟩, ?_⟩
            exact ⟨_, by omega, ci ⟨d + 1, _, rfl, ⟨rfl, rfl, by show pn _ = pn _; rw [f1, f2], by show pn _ = pn _; norm_cast, trivial⟩, rfl, by omega, by omega⟩⟩
          · rw [decide_eq_false hp]
            refine ⟨⟨by omega, by omega⟩, ?_⟩
            exact ⟨_, by omega, ci ⟨d + 1, _, rfl, ⟨rfl, rfl, by show pn _ = pn _; rw [rr_same hp], by show pn _ = pn _; norm_cast, trivial⟩, rfl, by omega, by omega⟩⟩
    · have e : q = m + 1 := by omega
      subst e
      have e5 : ((3 * (m - 2) * rr m (m + 1) : Nat) : Int).tdiv 8 = ((3 * (m - 2) * rr m (m + 1) / 8 : Nat) : Int) := tdiv_nat (b := 8)
      have e6 : 3 * (m - 2) * rr m (m + 1) / 8 < 10000000000000000 := by
        have := hb3 (m + 1)
        have := Nat.div_le_self (3 * (m - 2) * rr m (m + 1)) 8
        omega
      have e7 : primV m = .tup [pI ((3 * (m - 2) * rr m (m + 1) / 8 : Nat) : Int), pn 0] := by
        unfold primV
        rw [if_pos h]
        rfl
      rw [e7]
      generalize 3 * (m - 2) * rr m (m + 1) / 8 = Y at e5 e6
      refine ⟨⟨by decide, by rw [e5]; unfold In64; omega⟩, ?_⟩
      rw [e5]
      refine ⟨by omega, part1 fzI ⟨_, rfl, ?_⟩⟩
      refine cal1 (fz_own (n := 1) (c := 1) (cs' := [pn Y]) rfl (Nat.le_refl 1) (by decide) rfl) (rnorm_ct S (oldR_of S hS) (xs := [(Y : Int)]) (X := Y) ⟨fun e he => by simp at he; subst he; unfold In64; omega, by simp, by simp [IM.val], by have := dig_small (n := Y) (by omega); omega⟩) (by omega) ?_
      rintro _ rfl
      exact endsq rfl rfl
  · rw [decide_eq_false h]
    have hf : PV.tup [.lst 0 [], pn 2] = primV n := by unfold primV; rw [if_neg h]
    exact ⟨⟨[], hf⟩⟩
end Go.PI
/- THE LAW OF FORMULAS. -/
open Go.Proofs
namespace Go.PI
open IM
set_option maxRecDepth 20000
set_option maxHeartbeats 4000000
variable (S : FuncId → Option (List AV → Heap → Option (AV × Heap)))
theorem fn38 : ctx.fn 38 = some c38 := by kernel_rfl
theorem fn10 : ctx.fn 10 = some c10 := by kernel_rfl
theorem sameRate_ct (hS : OldO S) {a b : Int} (ha : (digits a).length ≤ 1000000) (hb : (digits b).length ≤ 1000000) : Ct (ctx.plus S) 38 [pF a b, pF a b] 10 fun r => r = .bool true := by
  refine ct_of (hS 38 (by decide)) fn38 ?_
  refine ⟨by omega, by omega, ?_⟩
  refine ⟨_, rfl, ?_⟩
  refine ⟨_, rfl, ?_⟩
  refine callq rfl (ints_ct S hS (xs := digits a) (ys := digits a) ha ha) (by omega) ?_
  rintro _ rfl
  rw [decide_eq_true rfl]
  refine ⟨_, rfl, ?_⟩
  refine ⟨_, rfl, ?_⟩
  refine callq rfl (ints_ct S hS (xs := digits b) (ys := digits b) hb hb) (by omega) ?_
  rintro _ rfl
  rw [decide_eq_true rfl]
  exact endq rfl rfl
theorem tori_form (n : Int) : ∃ a b e : Int, toriV n = .tup [pF a b, pn e] ∧ (digits a).length ≤ 1000000 ∧ (digits b).length ≤ 1000000 := by
  unfold toriV
  split
  · rename_i h
    have hb := sg_bd (n := n.toNat) (by omega) (by omega)
    refine ⟨_, _, _, rfl, ?_, ?_⟩
    · have h1 : (sg n.toNat (n.toNat + 1) : Int) / (Int.gcd (sg n.toNat (n.toNat + 1)) n : Int) ≤ sg n.toNat (n.toNat + 1) := Int.ediv_le_self _ (by omega)
      have h2 : 0 ≤ (sg n.toNat (n.toNat + 1) : Int) / (Int.gcd (sg n.toNat (n.toNat + 1)) n : Int) := Int.ediv_nonneg (by omega) (by omega)
      have := dig_small (n := (sg n.toNat (n.toNat + 1) : Int) / (Int.gcd (sg n.toNat (n.toNat + 1)) n : Int)) (by omega)
      omega
    · have h1 : n / (Int.gcd (sg n.toNat (n.toNat + 1)) n : Int) ≤ n := Int.ediv_le_self _ (by omega)
      have h2 : 0 ≤ n / (Int.gcd (sg n.toNat (n.toNat + 1)) n : Int) := Int.ediv_nonneg (by omega) (by omega)
      have := dig_small (n := n / (Int.gcd (sg n.toNat (n.toNat + 1)) n : Int)) (by omega)
      omega
  · exact ⟨0, 0, 2, rfl, by rw [digits_zero]; decide, by rw [digits_zero]; decide⟩
theorem prim_form (n : Int) : ∃ (xs : List Int) (e : Int), primV n = .tup [pIs xs, pn e] ∧ xs.length ≤ 1000000 := by
  unfold primV
  split
  · rename_i h
    refine ⟨_, _, rfl, ?_⟩
    have hb := rr_le (n := n.toNat) (by omega) (n.toNat + 1)
    have hb2 : n.toNat * n.toNat ≤ 1000 * 1000 := Nat.mul_le_mul (by omega) (by omega)
    have hb3 : 3 * (n.toNat - 2) * rr n.toNat (n.toNat + 1) ≤ 3000 * 1000000 := Nat.mul_le_mul (by omega) (by omega)
    have h1 := Nat.div_le_self (3 * (n.toNat - 2) * rr n.toNat (n.toNat + 1)) 8
    generalize 3 * (n.toNat - 2) * rr n.toNat (n.toNat + 1) / 8 = Y at h1 ⊢
    have := dig_small (n := (Y : Int)) (by omega)
    omega
  · exact ⟨[], 2, rfl, by decide⟩
theorem formLaw_ct (hS : OldO S) {dA : Nat} (hA : Ct (ctx.plus S) 12 [] dA fun r => r = .bool true) {n : Int} : Ct (ctx.plus S) 10 [pn n] (17000000000 + dA) fun r => r = .bool true := by
  obtain ⟨a, b, e, h1, ha, hb⟩ := tori_form n
  obtain ⟨xs, g, h2, hx⟩ := prim_form n
  refine ct_of (hS 10 (by decide)) fn10 ?_
  refine callq rfl (tori_ct S hS) (by omega) ?_
  rintro _ rfl
  rw [h1]
  refine ⟨by omega, ?_⟩
  refine ⟨45, _, rfl, ⟨rfl, by decide, rfl⟩, _, rfl, _, rfl, ?_⟩
  refine callq rfl (rtori_ct S hS) (by omega) ?_
  rintro _ rfl
  rw [h1]
  refine ⟨by omega, ?_⟩
  refine ⟨45, _, rfl, ⟨rfl, by decide, rfl⟩, _, rfl, _, rfl, ?_⟩
  refine callq rfl (prim_ct S hS) (by omega) ?_
  rintro _ rfl
  rw [h2]
  refine callq rfl (rprim_ct S hS) (by omega) ?_
  rintro _ rfl
  rw [h2]
  refine ⟨_, rfl, ?_⟩
  refine ⟨_, rfl, ?_⟩
  refine callq rfl (sameRate_ct S hS ha hb) (by omega) ?_
  rintro _ rfl
  refine ⟨fun _ => ?_, fun h => absurd rfl h⟩
  refine callq rfl (ints_ct S hS hx hx) (by omega) ?_
  rintro _ rfl
  rw [decide_eq_true rfl]
  refine ⟨fun _ => ?_, fun h => absurd rfl h⟩
  refine callq rfl hA (by omega) ?_
  rintro _ rfl
  exact endq rfl rfl
end Go.PI
