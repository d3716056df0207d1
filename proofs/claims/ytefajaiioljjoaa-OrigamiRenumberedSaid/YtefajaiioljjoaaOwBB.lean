/- Own work of the verifier: OgArg OgH OgI OgJ OgR. -/
import Derived.Test.YtefajaiioljjoaaOwBA
import Derived.Test.YtefajaiioljjoaaOwAT
import Derived.Lib.SmallJoins
import Derived.ChangeSlices
import Derived.Test.YtefajaiioljjoaaOwAU
set_option linter.all false
set_option exponentiation.threshold 3000
set_option linter.deprecated false
/- THE ARGUMENTS OF THE LAWS OF ORIGAMIS. -/
open Go.Proofs
namespace Go.PI
open Go.ChangeShapes Go.WideShapes Go.ChangeAt Go.RowKit
open IM
set_option maxRecDepth 100000
set_option maxHeartbeats 4000000
theorem imp_sliceF {W : World} {μ : M} {H : Heap} (h : Imp W μ H) (hn : H.n < lim) {A : Option Addr} {L C : Nat} {Z : List Int} (hLC : L ≤ C) (hZ : L ≤ Z.length) (h0 : A = none → C = 0)
    (hc : ∀ a, A = some a → ∀ c, c < L → W.cell? (a.add c) = some (.int .i64 (Z.getD c 0))) :
    ∃ μ' H' v', Imp W μ' H' ∧ M.le μ μ' ∧ (∀ B, B < H.n → H'.get B = H.get B) ∧ H.n ≤ H'.n ∧ H'.n ≤ H.n + 1 ∧ VR μ' v' (.slice A L C) ∧ Sl H' v' (Z.take L) := by
  have hlen : (Z.take L).length = L := by simp; omega
  cases A with
  | none =>
    have hC := h0 rfl
    obtain rfl : C = 0 := hC
    obtain rfl : L = 0 := by omega
    exact ⟨μ, H, .nils, h, M.le.refl _, fun _ _ => rfl, Nat.le_refl _, Nat.le_succ _, .nils, rfl⟩
  | some a =>
    by_cases hL : L = 0
    · subst hL
      exact ⟨μ, H, .sle, h, M.le.refl _, fun _ _ => rfl, Nat.le_refl _, Nat.le_succ _, .sle _ _, rfl⟩
    · have ha := cell_zero (hc a rfl 0 (by omega))
      have hc' : ∀ c, c < L → W.cell? (Addr.add ⟨a.block, a.off, none⟩ c) = some (.int .i64 (Z.getD c 0)) := fun c hcl => by rw [← ha]; exact hc a rfl c hcl
      obtain ⟨carr, ty, fz, hb, -⟩ := cell_row (hc' 0 (by omega))
      have hlt : a.block < W.heap.size := by
        rcases Nat.lt_or_ge a.block W.heap.size with h1 | h1
        · exact h1
        · rw [Array.getElem?_eq_none h1] at hb; cases hb
      have hp := fun b => Heap.get_push (H := H) (b := b) hn
      · have hcells : ∀ c, c < L → carr[a.off + c]? = some (.int .i64 (Z.getD c 0)) := fun c hcl => by
          obtain ⟨carr2, ty2, fz2, hb2, hv⟩ := cell_row (hc' c hcl)
          rw [hb] at hb2
          cases hb2
          exact hv
        have hsz : a.off + L ≤ carr.size := by
          have := hcells (L - 1) (by omega)
          have := (Array.getElem?_eq_some_iff.1 this).1
          omega
        obtain ⟨cs, hcs⟩ : ∃ cs, cs = (carr.toList.take a.off).map AV.raw ++ ints (Z.take L) := ⟨_, rfl⟩
        have hcl : cs.length = a.off + L := by rw [hcs, List.length_append, List.length_map, List.length_take, ints_length, hlen, Array.length_toList]; omega
        have hvs : ∀ ν : M, VRs ν cs (carr.toList.take cs.length) := fun ν => by
          rw [hcl, hcs]
          have e : carr.toList.take (a.off + L) = carr.toList.take a.off ++ (carr.toList.drop a.off).take L := by rw [List.take_add]
          rw [e]
          refine All2.append (anys ν _) ?_
          have e2 : (carr.toList.drop a.off).take L = (Z.take L).map (Value.int .i64) := by
            apply List.ext_getElem?
            intro i
            by_cases hi : i < L
            · rw [List.getElem?_take, if_pos hi, List.getElem?_drop, Array.getElem?_toList, hcells i hi, List.getElem?_map, List.getElem?_take, if_pos hi]
              rw [List.getD_eq_getElem?_getD, List.getElem?_eq_getElem (by omega)]
              simp
            · rw [List.getElem?_take, if_neg hi, List.getElem?_map, List.getElem?_take, if_neg hi]; rfl
          rw [e2]
          generalize Z.take L = xs
          induction xs with
          | nil => exact .nil
          | cons x xs ih => exact .cons (.int _ _) ih
        obtain ⟨h1, h2⟩ := h.push hn (bi := ⟨a.block, carr.size, 0⟩) (b := .cells false ty cs) rfl (fun _ => ⟨hlt, blk0 rfl ⟨carr, fz, hb, rfl, by omega, hvs _, fun e => by cases e⟩⟩)
        refine ⟨_, _, .sl H.n a.off L C, h1, h2, fun B hB => by rw [hp, if_neg (by omega)], Nat.le_succ _, Nat.le_refl _, ?_, ⟨hlen.symm, false, ty, cs, by rw [hp, if_pos rfl], by omega, ?_⟩⟩
        · rw [ha]
          exact VR.sl0 (M.set_self _ _ _)
        · rw [hcs, List.drop_append, List.drop_of_length_le (by simp; omega), List.length_map, List.length_take, Array.length_toList, Nat.min_eq_left (by omega), Nat.sub_self, List.drop_zero, List.nil_append, List.take_of_length_le (by rw [ints_length]; omega)]
def CpX (v : AV) : Prop :=
  match v with
  | .sl _ _ l c => l ≤ c
  | _ => True
theorem nc24 : Try.prog.cellsOf 24 = 2 := by kernel_rfl
theorem nc22 : Try.prog.cellsOf 22 = 1 := by kernel_rfl
theorem nc3' : Try.prog.cellsOf 3 = 1 := by kernel_rfl
theorem cp_ofX {μ : M} {v : AV} {A : Option Addr} {L C : Nat} (h : VR μ v (.slice A L C)) (hLC : L ≤ C) : CpX v := by
  cases h <;> first | exact hLC | trivial
theorem rel_ints {H : Heap} {W : Nat → Prop} : ∀ (xs : List Int), All2 (RelC H W) (xs.map pn) (ints xs)
  | [] => .nil
  | x :: xs => .cons (.int _ _) (rel_ints xs)
theorem rel_of_sl {H : Heap} {x : AV} {xs : List Int} (h : Sl H x xs) (hc : CpX x) : RelC H (fun _ => False) (pIs xs) x := by
  have hr : ∀ {cs : List AV} {o : Nat}, (cs.drop o).take xs.length = ints xs → All2 (RelC H fun _ => False) (xs.map pn) ((cs.drop o).take (xs.map pn).length) := fun h => by
    rw [List.length_map, h]
    exact rel_ints xs
  unfold Sl at h
  split at h
  · subst h; exact .lnil
  · subst h; exact .lsle
  · obtain ⟨rfl, rw, ty, cs, h1, h2, h3⟩ := h
    exact .sl (fun h => h) h1 (by rw [List.length_map]; exact h2) hc (hr h3)
  · obtain ⟨rfl, rfl, rw, ty, cs, h1, h2, h3⟩ := h
    exact .slu (fun h => h) h1 (by rw [List.length_map]; exact h2) ⟨by simp, fun _ => rfl⟩ (hr h3)
  · exact h.elim
theorem imp_intsF {H : Type} {enc : TypeId × Value → H} {W : World} {μ : M} {Hp : Heap} (h : Imp W μ Hp) (hn : Hp.n + 2 < lim) {fuel : Nat} {v : Value} {y : DataW H × List MemPlace}
    (h1 : DataW.trod enc Try.prog W 0 (fun _ => true) true fuel 22 [v] = some y) :
    ∃ (μ' : M) (H' : Heap) (b : AV) (xs : List Int), Imp W μ' H' ∧ M.le μ μ' ∧ (∀ B, B < Hp.n → H'.get B = Hp.get B) ∧ Hp.n ≤ H'.n ∧ H'.n ≤ Hp.n + 1 ∧ VR μ' b v ∧ Sl H' b xs ∧ CpX b := by
  have hm : maxLen = 9223372036854775807 := rfl
  rcases open_ints Try.underlying22 Try.underlying3 nc3' h1 with ⟨hcs, -⟩ | ⟨a, len, cap, zs, hcs, -, hl, hc, hz, -, hcell, hwf⟩
  · obtain rfl : v = .slice none 0 0 := by simpa using hcs
    exact ⟨μ, Hp, .nils, [], h, M.le.refl _, fun _ _ => rfl, Nat.le_refl _, by omega, .nils, rfl, trivial⟩
  · obtain rfl : v = .slice (some a) len cap := by simpa using hcs
    simp only [if_true] at hz
    obtain ⟨μ', H', v', g1, g2, g3, g4, g5, g6, g7⟩ := imp_sliceF (A := some a) (L := len) (C := cap) (Z := zs) h (by omega) hl (by omega) (fun e => by cases e) (fun a' ha' c hcl => by
      cases ha'
      exact hcell c (by omega))
    exact ⟨μ', H', v', _, g1, g2, g3, g4, g5, g6, g7, cp_ofX g6 hl⟩
theorem rows_struct {H : Type} {enc : TypeId × Value → H} {P : Program} {w : World} {base : Nat} {spare : Nat → Bool} {held : Bool} {t : TypeId} {f0 f1 : Field} {fuel : Nat} {cs : List Value} {x : DataW H × List MemPlace} (ht : P.underlying t = some (.struct #[f0, f1])) (h : DataW.trod enc P w base spare held fuel t cs = some x) :
    ∃ y0 y1 n, cs.length = P.cellsOf t ∧ DataW.trod enc P w base spare held n f0.type ((cs.drop f0.offset).take (P.cellsOf f0.type)) = some y0 ∧ DataW.trod enc P w base spare held n f1.type ((cs.drop f1.offset).take (P.cellsOf f1.type)) = some y1 := by
  obtain ⟨xs, n, _, rfl, hl, hlen, hf⟩ := DataW.trod_struct ht h
  match xs, hlen with
  | [y0, y1], _ => exact ⟨y0, y1, n, hl, by simpa using hf 0 f0 rfl, by simpa using hf 1 f1 rfl⟩
theorem rel_up {H H' : Heap} {p : PV} {a : AV} (h : RelC H (fun _ => False) p a) (k : ∀ A, A < H.n → H'.get A = H.get A) : RelC H' (fun _ => False) p a := h.mono (fun A hA _ => k A hA) (fun _ _ h => h)
theorem imp_orig {H : Type} {enc : TypeId × Value → H} {W : World} {μ : M} {Hp : Heap} (h : Imp W μ Hp) (hn : Hp.n + 6 < lim) {fuel : Nat} {cs : Array Value} {y : DataW H × List MemPlace}
    (h0 : DataW.trod enc Try.prog W 0 (fun _ => true) true fuel 24 cs.toList = some y) :
    ∃ (μ' : M) (H' : Heap) (a : AV) (xs ys : List Int), Imp W μ' H' ∧ M.le μ μ' ∧ (∀ B, B < Hp.n → H'.get B = Hp.get B) ∧ Hp.n ≤ H'.n ∧ H'.n ≤ Hp.n + 2 ∧ VR μ' a (.agg cs) ∧ RelC H' (fun _ => False) (pO xs ys) a := by
  obtain ⟨y0, y1, n, hl, t0, t1⟩ := rows_struct Try.underlying24 h0
  rw [nc24] at hl
  obtain ⟨v0, v1, hcs⟩ : ∃ v0 v1, cs.toList = [v0, v1] := by
    match h : cs.toList, hl with
    | [a, b], _ => exact ⟨a, b, rfl⟩
  rw [hcs] at t0 t1
  simp only [nc22, List.drop, List.take] at t0 t1
  obtain ⟨μ1, H1, a, xs, i1, le1, k1, n1, m1, va, sa, ca⟩ := imp_intsF h (by omega) t0
  obtain ⟨μ2, H2, b, ys, i2, le2, k2, n2, m2, vb, sb, cb⟩ := imp_intsF i1 (by omega) t1
  refine ⟨μ2, H2, .agg [a, b], xs, ys, i2, le1.trans le2, fun B hB => by rw [k2 B (by omega), k1 B hB], by omega, by omega, .agg (by rw [hcs]; exact .cons (va.mono le2) (.cons vb .nil)), ?_⟩
  exact .agg (.cons (rel_up (rel_of_sl sa ca) k2) (.cons (rel_of_sl sb cb) .nil))
theorem law_calls {W : World} {μ : M} {H : Heap} {f : FuncId} {c : FI} (hf : ctxA.fn f = some c) (i : Imp W μ H) {args : Array Value} {avs : List AV} {ps : List PV} {d : Nat} (hv : VRs μ avs args.toList) (hr : All2 (RelC H fun _ => False) ps avs) (hd : H.n + d < lim)
    (hct : Ct ctxA f ps d fun r => r = .bool true) : Calls Try.prog f args W fun e w' => e = .returned (.bool true) ∧ Below W.heap.size W w' := by
  have law : Cl ctxA f avs H fun r _ => r = .bool true := by
    refine (hct H (fun _ => False) avs (fun b h => h.elim) hr hd).mono ?_
    rintro r H' ⟨q, rfl, hq, -⟩
    cases hq
    rfl
  obtain ⟨k, r, H', hc, rfl⟩ := law
  have hC := ctxA_fine
  rcases callF_sim hC (sound hC k) hc (args := args) hv i.hr with ⟨u, w', hrun, -⟩ | ⟨-, hcalls⟩
  · exfalso
    obtain ⟨fn', f1, f2, f3, f4, f5⟩ := hC.fn f _ hf
    have f5' : ¬ fn'.name = "runtime.NumGoroutine" := by simpa using f5
    simp [callFunc, f1, f5', f4] at hrun
  · have hw : Calls Try.prog f args W fun e w' => ∃ u, e = .returned u ∧ EffR μ H W (.bool true) H' u w' := callsIn_wide.1 (hcalls Fence.wide 0 ⟨fun _ => trivial, rfl, rfl⟩)
    refine hw.mono ?_
    rintro e w' ⟨u, rfl, hE⟩
    refine ⟨?_, below_of i.no hE⟩
    obtain ⟨μ', hv, -⟩ := hE
    rw [hv.bool_inv]
end Go.PI
/- COVERINGS: what is asked of a list, of the program and of the reference. -/
open Go.Proofs
namespace Go.PI
open IM
set_option maxRecDepth 10000
set_option maxHeartbeats 4000000
variable (S : FuncId → Option (List AV → Heap → Option (AV × Heap)))
theorem fn121 : ctx.fn 121 = some c121 := by kernel_rfl
theorem neighbours_ct (hS : OldO S) {r u : List Int} {n x : Nat} {f f' g g' : Nat → Nat} (h : IsO r u n f f' g g') (hx : x < n) : Ct (ctx.plus S) 121 [pO r u, pn x] 2 fun v => v = .agg [pn (f x), pn (g x)] := by
  obtain ⟨h0, hn, rfl, rfl, pr, pu⟩ := h
  have l1 : (PL n f).length = n := PL_len
  have l2 : (PL n g).length = n := PL_len
  refine ct_of (hS 121 (by decide)) fn121 ?_
  refine ⟨by omega, by omega, ?_⟩
  refine ⟨by kernel_rfl, ?_⟩
  refine ⟨_, rfl, rfl, ?_⟩
  refine ⟨⟨⟨by omega, by omega⟩, len_map_le (by omega)⟩, ?_⟩
  refine ⟨_, ld (at_map (PL_get hx)) (by show _ * 1 = x; omega), rfl, ?_⟩
  refine ⟨_, rfl, rfl, ?_⟩
  refine ⟨⟨⟨by omega, by omega⟩, len_map_le (by omega)⟩, ?_⟩
  refine ⟨_, ld (at_map (PL_get hx)) (by show _ * 1 = x; omega), rfl, ?_⟩
  refine partc rfl ⟨_, rfl, ?_⟩
  refine ⟨_, _, rfl, ⟨rfl, Nat.le_refl 2, rfl⟩, _, rfl, _, rfl, ?_⟩
  exact ⟨_, rfl, endq rfl rfl⟩
theorem fn120 : ctx.fn 120 = some c120 := by kernel_rfl
theorem notSquare_ct (hS : OldO S) {r u : List Int} {x : Int} (hl : r.length ≤ 1000000) : Ct (ctx.plus S) 120 [pn x, .lptr [pIs r, pIs u]] 0 fun v => v = .bool (!decide (0 ≤ x ∧ x < r.length)) := by
  refine ct_of (hS 120 (by decide)) fn120 ?_
  refine ⟨by simp, ?_⟩
  refine ⟨_, rfl, ?_⟩
  refine ⟨⟨by omega, by omega⟩, ?_⟩
  refine callq rfl (within_ct S hS) (by omega) ?_
  rintro _ rfl
  by_cases h : 0 ≤ x ∧ x < r.length
  · rw [decide_eq_true (show 0 ≤ x ∧ x ≤ r.length - 1 by omega), decide_eq_true h]
    exact endq rfl rfl
  · rw [decide_eq_false (show ¬ (0 ≤ x ∧ x ≤ r.length - 1) by omega), decide_eq_false h]
    exact endq rfl rfl
def InB (fs : List Int) (m : Nat) : Prop := ∀ x ∈ fs, 0 ≤ x ∧ x < m
theorem fn81 : ctx.fn 81 = some c81 := by kernel_rfl
theorem areSquares_ct (hS : OldO S) {fs r u : List Int} (hl : fs.length ≤ 1000000) (hr : r.length ≤ 1000000) : Ct (ctx.plus S) 81 [pIs fs, pO r u] 1 fun v => (InB fs r.length ∧ v = .bool true) ∨ (¬ InB fs r.length ∧ v = .bool false) := by
  refine ct_of (hS 81 (by decide)) fn81 ?_
  refine ⟨by omega, ?_⟩
  refine cal2 (fzL) (fz_fnc1 rfl) (containsFunc_ct S hS (d := 0) (P := fun x => !decide (0 ≤ x ∧ x < r.length)) rfl hl fun x _ => notSquare_ct S hS hr) (by omega) ?_
  rintro _ (⟨⟨x, hx, hp⟩, rfl⟩ | ⟨hall, rfl⟩)
  · exact endq rfl (.inr ⟨fun h => by have := h x hx; simp [this] at hp, rfl⟩)
  · exact endq rfl (.inl ⟨fun x hx => by have := hall x hx; simpa using this, rfl⟩)
end Go.PI
/- COVERINGS: whether a list is one, of the program and of the reference. -/
open Go.Proofs
namespace Go.PI
open IM
set_option maxRecDepth 10000
set_option maxHeartbeats 4000000
variable (S : FuncId → Option (List AV → Heap → Option (AV × Heap)))
structure IsF (fs : List Int) (n m : Nat) (h : Nat → Nat) : Prop where
  eq : fs = PL n h
  lt : ∀ x, x < n → h x < m
theorem isF_of {fs : List Int} {n m : Nat} (hl : fs.length = n) (hb : InB fs m) : ∃ h, IsF fs n m h := by
  have hget : ∀ i, i < n → fs[i]? = some (((fs.getD i 0).toNat : Nat) : Int) := fun i hi => by
    have e := List.getElem?_eq_getElem (show i < fs.length by omega)
    have := hb _ (List.getElem_mem (show i < fs.length by omega))
    rw [List.getD_eq_getElem?_getD, e]
    simp only [Option.getD_some]
    congr 1
    omega
  refine ⟨fun i => (fs.getD i 0).toNat, PL_ext hl hget, fun i hi => ?_⟩
  have := hb _ (List.mem_of_getElem? (hget i hi))
  show (fs.getD i 0).toNat < m
  omega
def Keeps (n : Nat) (h f g F G : Nat → Nat) : Prop := ∀ x, x < n → h (f x) = F (h x) ∧ h (g x) = G (h x)
def OntoP (fs : List Int) (m : Nat) : Prop := ∀ y : Nat, y < m → (y : Int) ∈ fs
def keysOf (es : List (Int × PV)) : List Int := es.map (·.1)
theorem keys_set {n : Int} {v : PV} : ∀ {es : List (Int × PV)}, (keysOf es).Nodup → (keysOf (pmapSet es n v)).Nodup ∧ ∀ k, k ∈ keysOf (pmapSet es n v) ↔ k = n ∨ k ∈ keysOf es
  | [], _ => ⟨by simp [pmapSet, keysOf], fun k => by simp [pmapSet, keysOf]⟩
  | (k0, x) :: es, h => by
    have h2 := List.nodup_cons.1 (show (k0 :: keysOf es).Nodup from h)
    unfold pmapSet
    cases hb : k0 == n with
    | true =>
      have : k0 = n := by simpa using hb
      subst this
      refine ⟨h, fun k => ?_⟩
      show k ∈ k0 :: keysOf es ↔ k = k0 ∨ k ∈ k0 :: keysOf es
      simp
    | false =>
      have hne : k0 ≠ n := by simpa using hb
      obtain ⟨i1, i2⟩ := keys_set (n := n) (v := v) h2.2
      refine ⟨?_, fun k => ?_⟩
      · show (k0 :: keysOf (pmapSet es n v)).Nodup
        exact List.nodup_cons.2 ⟨fun hm => by
          rcases (i2 k0).1 hm with e | e
          · exact hne e
          · exact h2.1 e, i1⟩
      · show k ∈ k0 :: keysOf (pmapSet es n v) ↔ k = n ∨ k ∈ k0 :: keysOf es
        rw [List.mem_cons, i2, List.mem_cons]
        constructor
        · rintro (a | a | a)
          · exact .inr (.inl a)
          · exact .inl a
          · exact .inr (.inr a)
        · rintro (a | a | a)
          · exact .inr (.inl a)
          · exact .inl a
          · exact .inr (.inr a)
def Cov (fs : List Int) (k : Nat) (es : List (Int × PV)) : Prop := (keysOf es).Nodup ∧ ∀ y, y ∈ keysOf es ↔ y ∈ fs.take k
theorem cov_next {fs : List Int} {k : Nat} {es : List (Int × PV)} {y : Int} {v : PV} (h : Cov fs k es) (hy : fs[k]? = some y) : Cov fs (k + 1) (pmapSet es y v) := by
  obtain ⟨i1, i2⟩ := keys_set (n := y) (v := v) h.1
  refine ⟨i1, fun z => ?_⟩
  rw [i2, take_snoc hy, List.mem_append, h.2]
  simp [or_comm]
theorem cov_len {fs : List Int} {es : List (Int × PV)} {m : Nat} (h : Cov fs fs.length es) (hb : InB fs m) : (es.length = m ↔ OntoP fs m) ∧ es.length ≤ m := by
  have hk : ∀ y, y ∈ keysOf es ↔ y ∈ fs := fun y => by rw [h.2, List.take_length]
  have hl : (keysOf es).length = es.length := by simp [keysOf]
  have hsub : ∀ y ∈ keysOf es, y ∈ List.map (fun k : Nat => (k : Int)) (List.range m) := fun y hy => by
    have := hb y ((hk y).1 hy)
    exact List.mem_map.2 ⟨y.toNat, List.mem_range.2 (by omega), by omega⟩
  have hle := len_le_of h.1 hsub
  rw [hl] at hle
  simp only [List.length_map, List.length_range] at hle
  refine ⟨⟨fun e y hy => ?_, fun ho => ?_⟩, hle⟩
  · rw [← hk]
    refine Classical.byContradiction fun hc => ?_
    have := len_le_of (l := (y : Int) :: keysOf es) (List.nodup_cons.2 ⟨hc, h.1⟩) (m := List.map (fun k : Nat => (k : Int)) (List.range m)) fun z hz => by
      rcases List.mem_cons.1 hz with rfl | hz
      · exact List.mem_map.2 ⟨y, List.mem_range.2 hy, rfl⟩
      · exact hsub z hz
    simp only [List.length_cons, List.length_map, List.length_range] at this
    omega
  · have hnd : (List.map (fun k : Nat => (k : Int)) (List.range m)).Nodup := by
      unfold List.Nodup
      rw [List.pairwise_map]
      exact List.pairwise_lt_range.imp fun hab e => by omega
    have := len_le_of hnd (m := keysOf es) fun z hz => by
      obtain ⟨k, hk2, rfl⟩ := List.mem_map.1 hz
      exact (hk _).2 (ho k (List.mem_range.1 hk2))
    simp only [List.length_map, List.length_range] at this
    omega
theorem fn82 : ctx.fn 82 = some c82 := by kernel_rfl
def CovP (fs : List Int) (n m : Nat) (h f g F G : Nat → Nat) : Prop := Keeps n h f g F G ∧ OntoP fs m
theorem isCovering_ct (hS : OldO S) {r u r2 u2 fs : List Int} {n m : Nat} {f f' g g' F F' G G' h : Nat → Nat} (ho : IsO r u n f f' g g') (ho2 : IsO r2 u2 m F F' G G') (hf : IsF fs n m h) :
    Ct (ctx.plus S) 82 [pO r u, pO r2 u2, pIs fs] (3 + 5 * n) fun v => (CovP fs n m h f g F G ∧ v = .bool true) ∨ (¬ CovP fs n m h f g F G ∧ v = .bool false) := by
  have hfl : fs.length = n := by rw [hf.eq, PL_len]
  have hget : ∀ i, i < n → fs[i]? = some (h i : Int) := fun i hi => by rw [hf.eq, PL_get hi]
  have hn := ho.le
  have hm := ho2.le
  have hin : InB fs m := fun x hx => by
    rw [hf.eq] at hx
    obtain ⟨i, hi, rfl⟩ := List.mem_map.1 hx
    have := hf.lt i (List.mem_range.1 hi)
    omega
  refine ct_of (hS 82 (by decide)) fn82 ?_
  refine ⟨by omega, by omega, ?_⟩
  refine ⟨by omega, ?_⟩
  refine ⟨fun q s => ∃ (i b : Nat) (es : List (Int × PV)) (τ : List StB) (T : List PV), s = ⟨T, [.live 24 [pIs r, pIs u], .live 24 [pIs r2, pIs u2], .mp .i64 es] ++ τ, b⟩ ∧ Gt T 49 [(2, pIs fs), (3, .optr 0 0), (4, .optr 1 0), (7, .omap 2), (14, pIs fs), (15, pn fs.length), (16, pn i)] ∧ q = n - i ∧ i ≤ n ∧ b ≤ 3 + 5 * i ∧ Hid (Cov fs i es ∧ Keeps i h f g F G), ⟨_, ci ⟨0, 3, [], [], _, rfl, ⟨rfl, rfl, rfl, rfl, rfl, rfl, rfl, rfl, trivial⟩, rfl, Nat.zero_le _, by omega, ⟨⟨List.nodup_nil, fun y => by simp [keysOf]⟩, fun x hx => by omega⟩⟩⟩, ?_⟩
  rintro _ s ⟨i, b, es, τ, T, rfl, hT, rfl, hi, hb, hh⟩
  obtain ⟨J, rfl⟩ := gt_open hT
  clear hT
  refine ⟨fun hlt => ?_, fun hge => ?_⟩
  · have hin' : i < n := by omega
    have he := hget i hin'
    have hhi := hf.lt i hin'
    refine ⟨⟨⟨by omega, by omega⟩, len_map_le (by omega)⟩, ?_⟩
    refine ⟨_, ld (at_map he) (by show _ * 1 = i; omega), ?_⟩
    refine ⟨es, _, ⟨rfl, rfl⟩, rfl, _, rfl, ?_⟩
    refine ⟨_, rfl, ?_⟩
    refine callq rfl (neighbours_ct S hS ho2 hhi) (by omega) ?_
    rintro _ rfl
    refine ⟨by omega, ?_⟩
    refine ⟨_, _, push_get, ⟨rfl, Nat.le_refl 2, rfl⟩, _, rfl, _, push_set, ?_⟩
    refine ⟨_, rfl, ?_⟩
    refine callq rfl (neighbours_ct S hS ho hin') (by omega) ?_
    rintro _ rfl
    refine ⟨fun q s => ∃ (k L b' : Nat) (σ' τ' : List StB) (T : List PV), s = ⟨T, σ', b'⟩ ∧ Gt T 49 [(2, pIs fs), (3, .optr 0 0), (4, .optr 1 0), (7, .omap 2), (8, pn i), (10, .optr L 0), (14, pIs fs), (15, pn fs.length), (16, pn i), (28, .agg [pn (f i), pn (g i)]), (29, pn k)] ∧ q = 2 - k ∧ k ≤ 2 ∧ b' ≤ 3 + 5 * (i + 1) ∧ Hid (σ' = [.live 24 [pIs r, pIs u], .live 24 [pIs r2, pIs u2], .mp .i64 (pmapSet es (h i) (.bool true))] ++ τ' ∧ σ'[L]? = some (.live 107 [pn (F (h i)), pn (G (h i))]) ∧ (0 < k → h (f i) = F (h i)) ∧ (1 < k → h (g i) = G (h i))), ⟨_, ci ⟨0, _, _, _, τ ++ [_], _, rfl, ⟨rfl, rfl, rfl, rfl, rfl, rfl, rfl, rfl, rfl, rfl, rfl, rfl, trivial⟩, rfl, Nat.zero_le _, by omega, ⟨rfl, push_get, fun a => by omega, fun a => by omega⟩⟩⟩, ?_⟩
    rintro _ s ⟨k, L, b', σ', τ', T, rfl, hT, rfl, hk, hb', hi2⟩
    obtain ⟨J, rfl⟩ := gt_open hT
    clear hT
    obtain ⟨e1, e2, e3, e4⟩ := hi2.h
    clear hi2
    subst e1
    refine ⟨fun hlt2 => ?_, fun hge2 => ?_⟩
    · have hne : CovP fs n m h f g F G → Keeps n h f g F G := fun h => h.1
      have hk2 : k = 0 ∨ k = 1 := by omega
      rcases hk2 with rfl | rfl
      · have hfi := ho.pr.lt i hin'
        refine ⟨⟨by omega, by omega⟩, _, rfl, ?_⟩
        refine ⟨by kernel_rfl, ?_⟩
        refine ⟨⟨⟨by omega, by omega⟩, len_map_le (by omega)⟩, ?_⟩
        refine ⟨_, ld (at_map (hget (f i) hfi)) (by show _ * 1 = f i; omega), rfl, ?_⟩
        refine ⟨⟨by omega, by omega⟩, ?_⟩
        refine ⟨_, load_k rfl rfl (contOf_live e2) (show [pn (F (h i)), pn (G (h i))][0]? = some (pn (F (h i))) from rfl) (by rfl), rfl, ?_⟩
        refine ⟨fun hbad => ?_, fun hgood => ?_⟩
        · exact endq rfl (.inr ⟨fun hc => hbad (by have := (hc.1 i hin').1; omega), rfl⟩)
        · refine ⟨⟨by omega, by omega⟩, ?_⟩
          exact ⟨_, by omega, ci ⟨1, L, b', _, τ', _, rfl, ⟨rfl, rfl, rfl, rfl, rfl, rfl, rfl, rfl, rfl, rfl, rfl, rfl, trivial⟩, rfl, by omega, by omega, ⟨rfl, e2, fun _ => by omega, fun a => by omega⟩⟩⟩
      · have hgi := ho.pu.lt i hin'
        refine ⟨⟨by omega, by omega⟩, _, rfl, ?_⟩
        refine ⟨by kernel_rfl, ?_⟩
        refine ⟨⟨⟨by omega, by omega⟩, len_map_le (by omega)⟩, ?_⟩
        refine ⟨_, ld (at_map (hget (g i) hgi)) (by show _ * 1 = g i; omega), rfl, ?_⟩
        refine ⟨⟨by omega, by omega⟩, ?_⟩
        refine ⟨_, load_k rfl rfl (contOf_live e2) (show [pn (F (h i)), pn (G (h i))][1]? = some (pn (G (h i))) from rfl) (by rfl), rfl, ?_⟩
        refine ⟨fun hbad => ?_, fun hgood => ?_⟩
        · exact endq rfl (.inr ⟨fun hc => hbad (by have := (hc.1 i hin').2; omega), rfl⟩)
        · refine ⟨⟨by omega, by omega⟩, ?_⟩
          exact ⟨_, by omega, ci ⟨2, L, b', _, τ', _, rfl, ⟨rfl, rfl, rfl, rfl, rfl, rfl, rfl, rfl, rfl, rfl, rfl, rfl, trivial⟩, rfl, by omega, by omega, ⟨rfl, e2, fun _ => e3 (by omega), fun _ => by omega⟩⟩⟩
    · refine ⟨⟨by omega, by omega⟩, ?_⟩
      exact ⟨_, by omega, ci ⟨i + 1, b', _, τ', _, rfl, ⟨rfl, rfl, rfl, rfl, rfl, rfl, rfl, rfl, trivial⟩, rfl, by omega, by omega, ⟨cov_next hh.h.1 he, fun x hx => by
        by_cases hxi : x = i
        · subst hxi; exact ⟨e3 (by omega), e4 (by omega)⟩
        · exact hh.h.2 x (by omega)⟩⟩⟩
  · have hin' : i = n := by omega
    subst hin'
    obtain ⟨c1, c2⟩ := cov_len (by rw [hfl]; exact hh.h.1) hin
    refine ⟨.i64, es, rfl, by omega, ?_⟩
    refine ⟨_, rfl, ?_⟩
    have hrl := ho2.l1.1
    refine ⟨fun heq => ?_, fun hne => ?_⟩
    · exact endq rfl (.inl ⟨⟨hh.h.2, c1.1 (by omega)⟩, rfl⟩)
    · exact endq rfl (.inr ⟨fun hc => hne (by have := c1.2 hc.2; omega), rfl⟩)
end Go.PI
/- COVERINGS: the checks whole; the law of proofs. -/
open Go.Proofs
namespace Go.PI
open IM
set_option maxRecDepth 10000
set_option maxHeartbeats 4000000
variable (S : FuncId → Option (List AV → Heap → Option (AV × Heap)))
theorem PL_getD {n : Nat} {f : Nat → Nat} {i : Nat} (h : i < n) : (PL n f).getD i 0 = (f i : Int) := by rw [List.getD_eq_getElem?_getD, PL_get h]; rfl
def CovL (r u r2 u2 fs : List Int) : Prop := (∀ x : Nat, x < r.length → fs.getD (r.getD x 0).toNat 0 = r2.getD (fs.getD x 0).toNat 0 ∧ fs.getD (u.getD x 0).toNat 0 = u2.getD (fs.getD x 0).toNat 0) ∧ OntoP fs r2.length
theorem covL_iff {r u r2 u2 fs : List Int} {n m : Nat} {f f' g g' F F' G G' h : Nat → Nat} (ho : IsO r u n f f' g g') (ho2 : IsO r2 u2 m F F' G G') (hf : IsF fs n m h) : CovL r u r2 u2 fs ↔ CovP fs n m h f g F G := by
  have l1 := ho.l1.1
  have l2 := ho2.l1.1
  unfold CovL CovP
  rw [l2]
  refine and_congr ?_ Iff.rfl
  rw [l1]
  have key : ∀ x, x < n → (fs.getD (r.getD x 0).toNat 0 = r2.getD (fs.getD x 0).toNat 0 ∧ fs.getD (u.getD x 0).toNat 0 = u2.getD (fs.getD x 0).toNat 0 ↔ h (f x) = F (h x) ∧ h (g x) = G (h x)) := fun x hx => by
    have a := ho.pr.lt x hx
    have b := ho.pu.lt x hx
    have c := hf.lt x hx
    rw [ho.hr, ho.hu, ho2.hr, ho2.hu, hf.eq, PL_getD hx, PL_getD hx, PL_getD hx, Int.toNat_natCast, Int.toNat_natCast, Int.toNat_natCast, PL_getD a, PL_getD b, PL_getD c, PL_getD c]
    omega
  exact ⟨fun h x hx => (key x hx).1 (h x hx), fun h x hx => (key x hx).2 (h x hx)⟩
open Classical in
noncomputable def chkM (r u r2 u2 fs : List Int) (same : Bool) : Int :=
  if chkA [(r, u), (r2, u2)] ≠ 0 then chkA [(r, u), (r2, u2)] else if fs.length ≠ r.length ∨ (same = true ∧ r.length ≠ r2.length) then 10 else if ¬ InB fs r2.length then 2 else if CovL r u r2 u2 fs then 0 else 18
section
variable {r u r2 u2 fs : List Int} {same : Bool}
theorem chkM_a (h : chkA [(r, u), (r2, u2)] ≠ 0) : chkM r u r2 u2 fs same = chkA [(r, u), (r2, u2)] := by unfold chkM; rw [if_pos h]
theorem chkM_10 (h : chkA [(r, u), (r2, u2)] = 0) (h2 : fs.length ≠ r.length ∨ (same = true ∧ r.length ≠ r2.length)) : chkM r u r2 u2 fs same = 10 := by unfold chkM; rw [if_neg (fun e => e h), if_pos h2]
theorem chkM_2 (h : chkA [(r, u), (r2, u2)] = 0) (h2 : ¬ (fs.length ≠ r.length ∨ (same = true ∧ r.length ≠ r2.length))) (h3 : ¬ InB fs r2.length) : chkM r u r2 u2 fs same = 2 := by unfold chkM; rw [if_neg (fun e => e h), if_neg h2, if_pos h3]
theorem chkM_0 (h : chkA [(r, u), (r2, u2)] = 0) (h2 : ¬ (fs.length ≠ r.length ∨ (same = true ∧ r.length ≠ r2.length))) (h3 : InB fs r2.length) (h4 : CovL r u r2 u2 fs) : chkM r u r2 u2 fs same = 0 := by unfold chkM; rw [if_neg (fun e => e h), if_neg h2, if_neg (fun e => e h3), if_pos h4]
theorem chkM_18 (h : chkA [(r, u), (r2, u2)] = 0) (h2 : ¬ (fs.length ≠ r.length ∨ (same = true ∧ r.length ≠ r2.length))) (h3 : InB fs r2.length) (h4 : ¬ CovL r u r2 u2 fs) : chkM r u r2 u2 fs same = 18 := by unfold chkM; rw [if_neg (fun e => e h), if_neg h2, if_neg (fun e => e h3), if_neg h4]
theorem chkA_two : chkA [(r, u), (r2, u2)] = 0 ↔ chkO r u = 0 ∧ chkO r2 u2 = 0 := by
  show (if chkO r u ≠ 0 then chkO r u else chkA [(r2, u2)]) = 0 ↔ _
  rw [chkA_one]
  by_cases h : chkO r u = 0
  · rw [if_neg (fun e => e h)]; simp [h]
  · rw [if_pos h]; simp [h]
theorem chkA_fst (h : chkO r u ≠ 0) : chkA [(r, u), (r2, u2)] = chkO r u := by
  show (if chkO r u ≠ 0 then chkO r u else chkA [(r2, u2)]) = _
  rw [if_pos h]
theorem chkA_snd (h : chkO r u = 0) : chkA [(r, u), (r2, u2)] = chkO r2 u2 := by
  show (if chkO r u ≠ 0 then chkO r u else chkA [(r2, u2)]) = _
  rw [if_neg (fun e => e h), chkA_one]
theorem chkA_valid (h : chkA [(r, u), (r2, u2)] = 0) : ∃ n m f f' g g' F F' G G', IsO r u n f f' g g' ∧ IsO r2 u2 m F F' G G' := by
  obtain ⟨a, b⟩ := chkA_two.1 h
  obtain ⟨n, f, f', g, g', ho⟩ := chkO_ok a
  obtain ⟨m, F, F', G, G', ho2⟩ := chkO_ok b
  exact ⟨n, m, f, f', g, g', F, F', G, G', ho, ho2⟩
end
theorem check2_ct (hS : OldO S) {r u r2 u2 : List Int} (l1 : r.length ≤ 1000000) (l2 : u.length ≤ 1000000) (l3 : r2.length ≤ 1000000) (l4 : u2.length ≤ 1000000) : Ct (ctx.plus S) 63 [pOs [(r, u), (r2, u2)]] 12 fun v => v = pn (chkA [(r, u), (r2, u2)]) :=
  checkAll_ct S hS (L := [(r, u), (r2, u2)]) (by simp) (fun p hp => by
    rcases List.mem_cons.1 hp with rfl | hp
    · exact ⟨l1, l2⟩
    · rw [List.mem_singleton.1 hp]; exact ⟨l3, l4⟩)
theorem fn38 : ctx.fn 38 = some c38 := by kernel_rfl
theorem checkCov_ct (hS : OldO S) {r u r2 u2 fs : List Int} (l1 : r.length ≤ 1000000) (l2 : u.length ≤ 1000000) (l3 : r2.length ≤ 1000000) (l4 : u2.length ≤ 1000000) (l5 : fs.length ≤ 1000000) : Ct (ctx.plus S) 38 [pO r u, pO r2 u2, pIs fs] 400 fun v => v = pn (chkM r u r2 u2 fs false) := by
  refine ct_of (hS 38 (by decide)) fn38 ?_
  refine ⟨by omega, by omega, ?_⟩
  refine ⟨_, rfl, ?_⟩
  refine ⟨_, rfl, ?_⟩
  refine ⟨by omega, partc rfl ⟨_, rfl, ?_⟩⟩
  refine cal1 (fz_own (ty := 24) rfl (Nat.le_refl 4) (Nat.le_refl _) rfl) (check2_ct S hS l1 l2 l3 l4) (by omega) ?_
  rintro _ rfl
  refine ⟨fun h0 => ?_, fun h0 => ?_⟩
  · exact endq rfl (by rw [chkM_a h0])
  refine ⟨_, rfl, ?_⟩
  refine ⟨fun h1 => ?_, fun h1 => ?_⟩
  · exact endq rfl (by rw [chkM_10 h0 (.inl (by omega))])
  have h2 : ¬ (fs.length ≠ r.length ∨ (false = true ∧ r.length ≠ r2.length)) := by simp; omega
  refine ⟨_, rfl, ?_⟩
  refine callq rfl (areSquares_ct S hS l5 l3) (by omega) ?_
  rintro _ (⟨h3, rfl⟩ | ⟨h3, rfl⟩)
  · obtain ⟨n, m, f, f', g, g', F, F', G, G', ho, ho2⟩ := chkA_valid h0
    have e1 := ho.l1.1
    have e2 := ho2.l1.1
    have hn := ho.le
    rw [e2] at h3
    obtain ⟨h, hf⟩ := isF_of (show fs.length = n by omega) h3
    have hiff := covL_iff ho ho2 hf
    refine ⟨_, rfl, ?_⟩
    refine ⟨_, rfl, ?_⟩
    refine callq rfl (isCovering_ct S hS ho ho2 hf) (by omega) ?_
    rintro _ (⟨h4, rfl⟩ | ⟨h4, rfl⟩)
    · exact endq rfl (by rw [chkM_0 h0 h2 (by rw [e2]; exact h3) (hiff.2 h4)])
    · exact endq rfl (by rw [chkM_18 h0 h2 (by rw [e2]; exact h3) (fun h => h4 (hiff.1 h))])
  · exact endq rfl (by rw [chkM_2 h0 h2 h3])
theorem fn36 : ctx.fn 36 = some c36 := by kernel_rfl
theorem chkM_same {r u r2 u2 fs : List Int} (h : r.length = r2.length) : chkM r u r2 u2 fs true = chkM r u r2 u2 fs false := by
  unfold chkM
  simp [h]
theorem checkIso_ct (hS : OldO S) {r u r2 u2 fs : List Int} (l1 : r.length ≤ 1000000) (l2 : u.length ≤ 1000000) (l3 : r2.length ≤ 1000000) (l4 : u2.length ≤ 1000000) (l5 : fs.length ≤ 1000000) : Ct (ctx.plus S) 36 [pO r u, pO r2 u2, pIs fs] 500 fun v => v = pn (chkM r u r2 u2 fs true) := by
  refine ct_of (hS 36 (by decide)) fn36 ?_
  refine ⟨by omega, by omega, ?_⟩
  refine ⟨_, rfl, ?_⟩
  refine ⟨_, rfl, ?_⟩
  refine ⟨by omega, partc rfl ⟨_, rfl, ?_⟩⟩
  refine cal1 (fz_own (ty := 24) rfl (Nat.le_refl 4) (Nat.le_refl _) rfl) (check2_ct S hS l1 l2 l3 l4) (by omega) ?_
  rintro _ rfl
  have rest : chkM r u r2 u2 fs true = chkM r u r2 u2 fs false → Ct (ctx.plus S) 38 [pO r u, pO r2 u2, pIs fs] 400 fun v => v = pn (chkM r u r2 u2 fs true) := fun h => by rw [h]; exact checkCov_ct S hS l1 l2 l3 l4 l5
  refine ⟨fun h0 => ?_, fun h0 => ?_⟩
  · refine ⟨_, rfl, ?_⟩
    refine ⟨_, rfl, ?_⟩
    refine ⟨fun h1 => ?_, fun h1 => ?_⟩
    · exact endq rfl (by rw [chkM_10 h0 (.inr ⟨rfl, by omega⟩)])
    · refine ⟨_, rfl, ?_⟩
      refine ⟨_, rfl, ?_⟩
      refine callq rfl (rest (chkM_same (by omega))) (by omega) ?_
      rintro _ rfl
      exact endq rfl rfl
  · refine ⟨_, rfl, ?_⟩
    refine ⟨_, rfl, ?_⟩
    refine callq rfl (rest (by rw [chkM_a h0, chkM_a h0])) (by omega) ?_
    rintro _ rfl
    exact endq rfl rfl
theorem fn35 : ctx.fn 35 = some c35 := by kernel_rfl
theorem size_ct (hS : OldO S) {r u : List Int} : Ct (ctx.plus S) 35 [pO r u] 1 fun v => v = pn r.length := by
  refine ct_of (hS 35 (by decide)) fn35 ?_
  refine ⟨by omega, ?_⟩
  refine ⟨_, rfl, ?_⟩
  exact endq rfl rfl
end Go.PI
/- NUMBERINGS of squares, in a store of our own. -/
open Go.Proofs
namespace Go.PI
open IM
set_option maxRecDepth 10000
set_option maxHeartbeats 4000000
variable (S : FuncId → Option (List AV → Heap → Option (AV × Heap)))
def pnn (i : Nat) : PV := pn (i : Int)
def Onum : Opn := ⟨fun t => Nat.beq t 116, fun t => Nat.beq t 116 || Nat.beq t 22, false⟩
structure Num (σ : List StB) (j m : Nat) (v : PV) (xs : List Nat) : Prop where
  liv : σ[j]? = some (.liv 116 [v, .omap m])
  gr : Gr pnn 3 v σ xs
  mp : ∃ es, σ[m]? = some (.mp .i64 es) ∧ ∀ y : Nat, pmapGet es y = if y ∈ xs then some (pnn (xs.idxOf y)) else none
  ne : xs ≠ []
  jv : blkOf v ≠ some j
  mv : blkOf v ≠ some m
  jm : m ≠ j
  lv : ∃ jv, blkOf v = some jv ∧ σ[jv]? = some (.live 3 (xs.map pnn))
structure NF (σ σ' : List StB) (j m : Nat) (v v' : PV) : Prop where
  len : σ.length ≤ σ'.length
  keep : ∀ (i : Nat) (b : StB), i ≠ j → i ≠ m → blkOf v ≠ some i → σ[i]? = some b → σ'[i]? = some b
  blk : ∀ i, i < σ.length → blkOf v ≠ some i → blkOf v' ≠ some i
theorem NF.refl (σ : List StB) (j m : Nat) (v : PV) : NF σ σ j m v v := ⟨Nat.le_refl _, fun _ _ _ _ _ h => h, fun _ _ h => h⟩
theorem NF.trans {σ σ' σ'' : List StB} {j m : Nat} {v v' v'' : PV} (a : NF σ σ' j m v v') (b : NF σ' σ'' j m v' v'') : NF σ σ'' j m v v'' :=
  ⟨Nat.le_trans a.len b.len, fun i x h1 h2 h3 h4 => b.keep i x h1 h2 (a.blk i (List.getElem?_eq_some_iff.1 h4).1 h3) (a.keep i x h1 h2 h3 h4), fun i hi h => b.blk i (Nat.lt_of_lt_of_le hi a.len) (a.blk i hi h)⟩
theorem Gr.shape {α : Type} {f : α → PV} {e : TypeId} {v : PV} {σ : List StB} {Xs : List α} (h : Gr f e v σ Xs) (hne : Xs ≠ []) : ∃ jv ty, contOf σ jv = some (ty, Xs.map f) ∧ (v = .own jv 0 Xs.length Xs.length 1 ∨ v = .ownu jv Xs.length 1) := by
  rcases h with ⟨-, h⟩ | ⟨j, ty, rfl, h⟩ | ⟨j, rfl, h⟩
  · exact absurd h hne
  · exact ⟨j, ty, h, .inl rfl⟩
  · exact ⟨j, e, contOf_live h, .inr rfl⟩
theorem Gr.cell {α : Type} {f : α → PV} {e : TypeId} {v : PV} {σ : List StB} {Xs : List α} (h : Gr f e v σ Xs) : v.pcells = [v] ∧ v.one = true := by
  rcases h with ⟨rfl, h⟩ | ⟨j, ty, rfl, h⟩ | ⟨j, rfl, h⟩ <;> exact ⟨rfl, rfl⟩
theorem get_set_map {es : List (Int × PV)} {n k : Int} {v : PV} : pmapGet (pmapSet es n v) k = if k = n then some v else pmapGet es k := by
  induction es with
  | nil =>
    unfold pmapSet pmapGet
    by_cases h : k = n
    · subst h; simp
    · rw [if_neg h]
      have : (n == k) = false := by simpa using fun e => h e.symm
      rw [this]
      rfl
  | cons e es ih =>
    obtain ⟨k0, x⟩ := e
    unfold pmapSet
    cases hb : k0 == n with
    | true =>
      have : k0 = n := by simpa using hb
      subst this
      show pmapGet ((k0, v) :: es) k = _
      unfold pmapGet
      by_cases h : k = k0
      · subst h; simp
      · have : (k0 == k) = false := by simpa using fun e => h e.symm
        rw [this, if_neg h]
    | false =>
      show pmapGet ((k0, x) :: pmapSet es n v) k = _
      unfold pmapGet
      cases hk : k0 == k with
      | true =>
        have : k0 = k := by simpa using hk
        subst this
        have hne : k0 ≠ n := by simpa using hb
        rw [if_neg hne]
      | false => exact ih
theorem idx_new {xs : List Nat} {x : Nat} (h : x ∉ xs) : (xs ++ [x]).idxOf x = xs.length := by
  rw [List.idxOf_append, if_neg h]; simp
theorem idx_old {xs : List Nat} {x y : Nat} (h : y ∈ xs) : (xs ++ [x]).idxOf y = xs.idxOf y := by rw [List.idxOf_append, if_pos h]
theorem fn106 : ctx.fn 106 = some c106 := by kernel_rfl
theorem numberingFrom_cm (hS : OldO S) {σ : List StB} {x : Nat} : Cm (ctx.plus S) 106 [pnn x] σ 3 fun r σ' => ∃ j m v, r = .optr j 0 ∧ Num σ' j m v [x] ∧ (∀ (i : Nat) (b : StB), σ[i]? = some b → σ'[i]? = some b) ∧ σ.length ≤ j ∧ σ.length ≤ m ∧ (∀ i, i < σ.length → blkOf v ≠ some i) := by
  refine cm_of Onum (hS 106 (by decide)) fn106 fun c k0 hc => ?_
  refine ⟨by omega, part1 fzI ⟨[pnn x], rfl, ?_⟩⟩
  refine ⟨by omega, ?_⟩
  refine ⟨[], _, ⟨rfl, push_get⟩, rfl, _, push_set, ?_⟩
  refine ⟨_, rfl, ?_⟩
  refine ⟨by omega, ?_⟩
  refine endm [] (by dsimp only; omega) ?_
  have l1 : (σ ++ [StB.live 3 [pnn x]]).length = σ.length + 1 := by simp
  have l2 : ∀ B, (σ ++ [StB.live 3 [pnn x]] ++ [B]).length = σ.length + 2 := fun B => by simp
  refine ⟨_, _, _, rfl, ⟨push_get, .inr (.inl ⟨σ.length, 3, rfl, ?_⟩), ⟨[((x : Int), pn 0)], push_old (by exact push_get), fun y => ?_⟩, (by simp), ?_, ?_, ?_, ⟨σ.length, rfl, push_old (push_old push_get)⟩⟩, fun i b hb => push_old (push_old (push_old hb)), ?_, ?_, fun i hi => ?_⟩
  · exact contOf_app (contOf_app push_cont)
  · unfold pmapGet
    by_cases h : x = y
    · subst h; simp [pnn]
    · have : ((x : Int) == (y : Int)) = false := by simp; omega
      rw [this, if_neg (by simp; exact fun e => h e.symm)]
      rfl
  · show some σ.length ≠ some _
    rw [l2]; intro e; have := Option.some.inj e; omega
  · show some σ.length ≠ some _
    rw [l1]; intro e; have := Option.some.inj e; omega
  · rw [l1, l2]; omega
  · rw [l2]; omega
  · rw [l1]; omega
  · show some σ.length ≠ some i
    intro e; have := Option.some.inj e; omega
theorem addL_in {xs : List Nat} {x : Nat} (h : x ∈ xs) : addL xs x = xs := by unfold addL; rw [if_pos h]
theorem addL_out {xs : List Nat} {x : Nat} (h : x ∉ xs) : addL xs x = xs ++ [x] := by unfold addL; rw [if_neg h]
theorem fn107 : ctx.fn 107 = some c107 := by kernel_rfl
theorem number_cm (hS : OldO S) {σ : List StB} {j m : Nat} {v : PV} {xs : List Nat} {x : Nat} (h : Num σ j m v xs) (hl : xs.length ≤ 1000) :
    Cm (ctx.plus S) 107 [.optr j 0, pnn x] σ 4 fun r σ' => ∃ v', r = pnn ((addL xs x).idxOf x) ∧ Num σ' j m v' (addL xs x) ∧ NF σ σ' j m v v' := by
  refine cm_of Onum (hS 107 (by decide)) fn107 fun c k0 hc => ?_
  obtain ⟨es, hes, hget⟩ := h.mp
  refine ⟨_, load_liv h.liv rfl rfl, ?_⟩
  refine ⟨es, ⟨rfl, hes⟩, fun w hw => ?_, fun hw => ?_⟩
  · have hx : x ∈ xs := Classical.byContradiction fun hc => by
      have e := (hget x).symm.trans hw
      rw [if_neg hc] at e; cases e
    have e := (hget x).symm.trans hw
    rw [if_pos hx] at e
    cases e
    exact endm [] (by dsimp only; omega) ⟨v, by rw [addL_in hx]; rfl, by rw [addL_in hx]; exact h, NF.refl _ _ _ _⟩
  · have hx : x ∉ xs := fun hc => by
      have e := (hget x).symm.trans hw
      rw [if_pos hc] at e; cases e
    have hjm : j ≠ m := fun e => h.jm e.symm
    have hjl := (List.getElem?_eq_some_iff.1 h.liv).1
    have hml := (List.getElem?_eq_some_iff.1 hes).1
    have h' := h
    obtain ⟨jv, ty, hcv, hv⟩ := h.gr.shape h.ne
    have key : ∀ (v' : PV) (σ' : List StB), Gr pnn 3 v' σ' (xs ++ [x]) → (∀ i b, blkOf v ≠ some i → (σ ++ [StB.live 3 [pnn x]])[i]? = some b → σ'[i]? = some b) → blkOf v' = some (σ ++ [StB.live 3 [pnn x]]).length → σ'[(σ ++ [StB.live 3 [pnn x]]).length]? = some (.live 3 ((xs ++ [x]).map pnn)) → 
        ∃ v2, pnn xs.length = pnn ((addL xs x).idxOf x) ∧ Num ((σ'.set j (.liv 116 [v', .omap m])).set m (.mp .i64 (pmapSet es x (pnn xs.length)))) j m v2 (addL xs x) ∧ NF σ ((σ'.set j (.liv 116 [v', .omap m])).set m (.mp .i64 (pmapSet es x (pnn xs.length)))) j m v v2 := by
      intro v' σ' hv' hkp hbv hlv
      have hb1 := hv'.blk hbv
      have hl1 : (σ ++ [StB.live 3 [pnn x]]).length = σ.length + 1 := by simp
      rw [hl1] at hbv hb1 hlv
      have hb2 : ∀ i, i ≤ σ.length → blkOf v' ≠ some i := fun i hi e => by
        rw [hbv] at e; have := Option.some.inj e; omega
      refine ⟨v', by rw [addL_out hx, idx_new hx], ⟨?_, ?_, ⟨pmapSet es x (pnn xs.length), ?_, fun y => ?_⟩, ?_, ?_, ?_, h.jm, ⟨σ.length + 1, hbv, by rw [List.getElem?_set_ne (by omega), List.getElem?_set_ne (by omega), addL_out hx]; exact hlv⟩⟩, ⟨?_, fun i b h1 h2 h3 h4 => ?_, fun i hi _ => hb2 i (by omega)⟩⟩
      · rw [List.getElem?_set_ne h.jm, List.getElem?_set_self (by omega)]
      · rw [addL_out hx]
        refine hv'.keep fun i b hi hb => ?_
        rw [hbv] at hi
        have := Option.some.inj hi
        rw [List.getElem?_set_ne (by omega), List.getElem?_set_ne (by omega)]
        exact hb
      · rw [List.getElem?_set_self (by rw [List.length_set]; omega)]
      · rw [get_set_map, addL_out hx]
        by_cases hy : (y : Int) = x
        · have : y = x := by omega
          subst this
          rw [if_pos rfl, if_pos (by simp), idx_new hx]
        · have hne : y ≠ x := by omega
          rw [if_neg hy, hget]
          by_cases hm : y ∈ xs
          · rw [if_pos hm, if_pos (by simp [hm]), idx_old hm]
          · rw [if_neg hm, if_neg (by simp [hm, hne])]
      · rw [addL_out hx]; simp
      · exact hb2 j (by omega)
      · exact hb2 m (by omega)
      · rw [List.length_set, List.length_set]; omega
      · rw [List.getElem?_set_ne (Ne.symm h2), List.getElem?_set_ne (Ne.symm h1)]
        exact hkp i b h3 (push_old h4)
    rcases hv with rfl | rfl
    all_goals
      refine ⟨_, load_liv h.liv rfl rfl, ?_⟩
      refine ⟨_, load_liv h.liv rfl rfl, ?_⟩
      refine ⟨by omega, part1 fzI ⟨[pnn x], rfl, ?_⟩⟩
      refine appGu (f := pnn) (e := 3) (y := x) h.gr.push push_cont rfl rfl rfl rfl (by kernel_rfl) rfl rfl (by omega) (by omega) fun σ' hlv hkp => ?_
      obtain ⟨v', hvd⟩ : ∃ v', PV.ownu (σ ++ [StB.live 3 [pnn x]]).length (xs ++ [x]).length 1 = v' := ⟨_, rfl⟩
      have hv' : Gr pnn 3 v' σ' (xs ++ [x]) := .inr (.inr ⟨_, hvd.symm, hlv⟩)
      have hbv' : blkOf v' = some (σ ++ [StB.live 3 [pnn x]]).length := by rw [← hvd]; rfl
      rw [hvd]
      have hpc := hv'.cell
      refine ⟨_, _, hkp j _ h.jv (push_old h.liv), ⟨by rw [hpc.1]; rfl, Nat.le_of_ble_eq_true rfl, by rw [hpc.1]; show (v'.one && true) = true; rw [hpc.2]; rfl⟩, [v', .omap m], by rw [hpc.1]; rfl, _, rfl, ?_⟩
      have hj' : j < σ'.length := (List.getElem?_eq_some_iff.1 (hkp j _ h.jv (push_old h.liv))).1
      refine ⟨_, load_liv (List.getElem?_set_self hj') rfl rfl, ?_⟩
      refine ⟨es, _, ⟨rfl, by rw [List.getElem?_set_ne hjm]; exact hkp m _ h.mv (push_old hes)⟩, rfl, _, rfl, ?_⟩
      exact endm [] (by dsimp only; omega) (key v' σ' hv' hkp hbv' hlv)
end Go.PI
