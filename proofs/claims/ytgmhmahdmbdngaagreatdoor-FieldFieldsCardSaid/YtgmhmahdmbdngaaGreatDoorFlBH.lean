/- Own work of the verifier: PiImp CosA PiSA PvOpen PvLaw6 FldArg. -/
import Derived.Test.YtgmhmahdmbdngaaGreatDoorFlBG
import Derived.Test.YtgmhmahdmbdngaaGreatDoorFlBF
import Derived.Test.YtgmhmahdmbdngaaGreatDoorFlAR
import Derived.Lib.SmallJoins
import Derived.ChangeSlices
import Derived.Test.YtgmhmahdmbdngaaGreatDoorFlBA
import Derived.Test.YtgmhmahdmbdngaaGreatDoorFlBB
set_option linter.all false
set_option linter.deprecated false
open Go.Proofs
namespace Go.PI
open Go.ChangeShapes Go.WideShapes Go.ChangeAt Go.RowKit
def NoOwn (H : Heap) : Prop := ∀ A, (H.get A).own = false
structure Imp (W : World) (μ : M) (H : Heap) : Prop where
 hr : HR μ H W
 no : NoOwn H
theorem below_of {μ : M} {H H' : Heap} {w w' : World} {v : AV} {u : Value} (hno : NoOwn H) (h : EffR μ H w v H' u w') : Below w.heap.size w w' := by
 obtain ⟨μ', -, -, hf⟩ := h
 refine ⟨hf.os, hf.tape, hf.output, hf.size, fun k hk => (hf.keep k hk ?_).1⟩
 rintro ⟨A, a, ho, -⟩
 rw [hno A] at ho
 cases ho
theorem imp0 (W : World) : Imp W (fun _ => none) ⟨0, .nil⟩ :=
 ⟨⟨by simp [PI.lim], fun _ _ => rfl, fun A bi hl hm => (by cases hm), fun A B a b _ _ _ hm => (by cases hm)⟩, fun A => by unfold Heap.get; simp [Blk.own]⟩
theorem Imp.push {W : World} {μ : M} {H : Heap} (h : Imp W μ H) (hn : H.n < lim) {bi : BI} {b : Blk} (ho : b.own = false) (hb : b.live = true -> bi.c < W.heap.size /\ BlkR (μ.set H.n bi) W bi b) :
  Imp W (μ.set H.n bi) (H.push b) /\ M.le μ (μ.set H.n bi) := by
 have hle : M.le μ (μ.set H.n bi) := M.le_set (h.hr.dom _ (Nat.le_refl _))
 have hp := Heap.get_push (H := H) (b := b) hn
 refine ⟨⟨⟨?_, ?_, ?_, ?_⟩, ?_⟩, hle⟩
 ·show H.n + 1 <= lim
  omega
 ·intro A hA
  have hA : H.n + 1 <= A := hA
  unfold M.set
  rw [if_neg (by omega)]
  exact h.hr.dom A (by omega)
 ·intro A bj hl hm
  rw [hp] at hl ⊢
  by_cases hA : A = H.n
  ·subst hA
   rw [if_pos rfl] at hl ⊢
   rw [M.set_self] at hm
   cases hm
   exact hb hl
  ·rw [if_neg hA] at hl ⊢
   unfold M.set at hm
   rw [if_neg hA] at hm
   obtain ⟨h1, h2⟩ := h.hr.blk A bj hl hm
   exact ⟨h1, h2.mono hle rfl⟩
 ·intro A B a b' hAB hA
  rw [hp] at hA
  by_cases hA' : A = H.n
  ·rw [if_pos hA', ho] at hA; cases hA
  ·rw [if_neg hA', h.no A] at hA; cases hA
 ·intro A
  rw [hp]
  by_cases hA : A = H.n
  ·rw [if_pos hA]; exact ho
  ·rw [if_neg hA]; exact h.no A
def slen : AV -> Option Nat
 | .nils | .sle => some 0
 | .sl _ _ n _ | .slu _ _ n _ => some n
 | _ => none
def Seen (H : Heap) (v : AV) (xs : List Int) : Prop := slen v = some xs.length /\ (xs.length <= 1000 -> Sl H v xs)
theorem Seen.mono {H H' : Heap} {v : AV} {xs : List Int} (h : Seen H v xs) (k : ∀ A, A < H.n -> H'.get A = H.get A) : Seen H' v xs := ⟨h.1, fun hl => (h.2 hl).mono k⟩
theorem cell_zero {W : World} {a : Addr} {v : Value} (h : W.cell? (a.add 0) = some v) : a = ⟨a.block, a.off, none⟩ := by
 obtain ⟨b, o, s⟩ := a
 cases s with
 | none => rfl
 | some s =>
  unfold World.cell? at h
  simp only [Addr.add, if_true] at h
  split at h
  ·simp at h
  ·cases h
theorem cell_row {W : World} {b o i : Nat} {v : Value} (h : W.cell? (Addr.add ⟨b, o, none⟩ i) = some v) : ∃ carr ty fz, W.heap[b]? = some (.cells carr ty fz) /\ carr[o + i]? = some v := by
 have e : Addr.add ⟨b, o, none⟩ i = ⟨b, o + i, none⟩ := by
  unfold Addr.add
  split
  ·rename_i h0; subst h0; rfl
  ·rfl
 rw [e] at h
 unfold World.cell? at h
 split at h
 ·rename_i carr ty fz hc
  exact ⟨carr, ty, fz, hc, by simpa using h⟩
 ·cases h
theorem imp_slice {W : World} {μ : M} {H : Heap} (h : Imp W μ H) (hn : H.n < lim) {A : Option Addr} {L C : Nat} {Z : List Int} (hLC : L <= C) (hZ : L <= Z.length) (h0 : A = none -> C = 0)
  (hc : ∀ a, A = some a -> ∀ c, c < L -> W.cell? (a.add c) = some (.int .i64 (Z.getD c 0))) :
  ∃ μ' H' v', Imp W μ' H' /\ M.le μ μ' /\ (∀ B, B < H.n -> H'.get B = H.get B) /\ H.n <= H'.n /\ H'.n <= H.n + 1 /\ VR μ' v' (.slice A L C) /\ Seen H' v' (Z.take L) := by
 have hlen : (Z.take L).length = L := by simp; omega
 cases A with
 | none =>
  have hC := h0 rfl
  obtain rfl : C = 0 := hC
  obtain rfl : L = 0 := by omega
  exact ⟨μ, H, .nils, h, M.le.refl _, fun _ _ => rfl, Nat.le_refl _, Nat.le_succ _, .nils, rfl, fun _ => rfl⟩
 | some a =>
  by_cases hL : L = 0
  ·subst hL
   exact ⟨μ, H, .sle, h, M.le.refl _, fun _ _ => rfl, Nat.le_refl _, Nat.le_succ _, .sle _ _, rfl, fun _ => rfl⟩
  ·have ha := cell_zero (hc a rfl 0 (by omega))
   have hc' : ∀ c, c < L -> W.cell? (Addr.add ⟨a.block, a.off, none⟩ c) = some (.int .i64 (Z.getD c 0)) := fun c hcl => by rw [← ha]; exact hc a rfl c hcl
   obtain ⟨carr, ty, fz, hb, -⟩ := cell_row (hc' 0 (by omega))
   have hlt : a.block < W.heap.size := by
    rcases Nat.lt_or_ge a.block W.heap.size with h1 | h1
    ·exact h1
    ·rw [Array.getElem?_eq_none h1] at hb; cases hb
   have hp := fun b => Heap.get_push (H := H) (b := b) hn
   by_cases hbig : L <= 1000
   ·have hcells : ∀ c, c < L -> carr[a.off + c]? = some (.int .i64 (Z.getD c 0)) := fun c hcl => by
     obtain ⟨carr2, ty2, fz2, hb2, hv⟩ := cell_row (hc' c hcl)
     rw [hb] at hb2
     cases hb2
     exact hv
    have hsz : a.off + L <= carr.size := by
     have := hcells (L - 1) (by omega)
     have := (Array.getElem?_eq_some_iff.1 this).1
     omega
    obtain ⟨cs, hcs⟩ : ∃ cs, cs = (carr.toList.take a.off).map AV.raw ++ ints (Z.take L) := ⟨_, rfl⟩
    have hcl : cs.length = a.off + L := by rw [hcs, List.length_append, List.length_map, List.length_take, ints_length, hlen, Array.length_toList]; omega
    have hvs : ∀ ν : M, VRs ν cs (carr.toList.take cs.length) := fun ν => by
     rw [hcl, hcs]
     have e : carr.toList.take (a.off + L) = carr.toList.take a.off ++ (carr.toList.drop a.off).take L := by rw [List.take_add]
     rw [e]
     refine All2.append (anys ν _) ?_
     have e2 : (carr.toList.drop a.off).take L = (Z.take L).map (Value.int .i64) := by
      apply List.ext_getElem?
      intro i
      by_cases hi : i < L
      ·rw [List.getElem?_take, if_pos hi, List.getElem?_drop, Array.getElem?_toList, hcells i hi, List.getElem?_map, List.getElem?_take, if_pos hi]
       rw [List.getD_eq_getElem?_getD, List.getElem?_eq_getElem (by omega)]
       simp
      ·rw [List.getElem?_take, if_neg hi, List.getElem?_map, List.getElem?_take, if_neg hi]; rfl
     rw [e2]
     generalize Z.take L = xs
     induction xs with
     | nil => exact .nil
     | cons x xs ih => exact .cons (.int _ _) ih
    obtain ⟨h1, h2⟩ := h.push hn (bi := ⟨a.block, carr.size⟩) (b := .cells false ty cs) rfl (fun _ => ⟨hlt, carr, fz, hb, rfl, by omega, hvs _, fun e => by cases e⟩)
    refine ⟨_, _, .sl H.n a.off L C, h1, h2, fun B hB => by rw [hp, if_neg (by omega)], Nat.le_succ _, Nat.le_refl _, ?_, by rw [hlen]; rfl, fun _ => ⟨hlen.symm, false, ty, cs, by rw [hp, if_pos rfl], by omega, ?_⟩⟩
    ·rw [ha]
     exact .sl (bi := ⟨a.block, carr.size⟩) (M.set_self _ _ _)
    ·rw [hcs, List.drop_append, List.drop_of_length_le (by simp; omega), List.length_map, List.length_take, Array.length_toList, Nat.min_eq_left (by omega), Nat.sub_self, List.drop_zero, List.nil_append, List.take_of_length_le (by rw [ints_length]; omega)]
   ·obtain ⟨h1, h2⟩ := h.push hn (bi := ⟨a.block, carr.size⟩) (b := .dead) rfl (fun hl => by cases hl)
    refine ⟨_, _, .sl H.n a.off L C, h1, h2, fun B hB => by rw [hp, if_neg (by omega)], Nat.le_succ _, Nat.le_refl _, ?_, by rw [hlen]; rfl, fun hl => absurd hl (by omega)⟩
    rw [ha]
    exact .sl (bi := ⟨a.block, carr.size⟩) (M.set_self _ _ _)
end Go.PI
open Go.Proofs
namespace Go.PI
set_option maxRecDepth 1000000
theorem run20 : isTrue (quick ctx1 100000000 20 [] ⟨0, .nil⟩) = true := by kernel_rfl
theorem ctx2_fine : Ctx.Ok Tryz.prog ctx2 := by
 obtain ⟨H, h⟩ := isTrue_some run20
 exact ctx2_ok (quick_sim h)
end Go.PI
open Go.Proofs
namespace Go.PI
open IM
open Go.ChangeShapes Go.WideShapes Go.ChangeAt Go.RowKit
set_option maxRecDepth 10000
set_option maxHeartbeats 4000000
theorem fn23 : ctx.fn 23 = some c23 := by kernel_rfl
section
variable (S : FuncId -> Option (List AV -> Heap -> Option (AV × Heap)))
theorem ex26 (T : List AV) (h : T.length = 26) : T = [T.getD 0 undefA, T.getD 1 undefA, T.getD 2 undefA, T.getD 3 undefA, T.getD 4 undefA, T.getD 5 undefA, T.getD 6 undefA, T.getD 7 undefA, T.getD 8 undefA, T.getD 9 undefA, T.getD 10 undefA, T.getD 11 undefA, T.getD 12 undefA, T.getD 13 undefA, T.getD 14 undefA, T.getD 15 undefA, T.getD 16 undefA, T.getD 17 undefA, T.getD 18 undefA, T.getD 19 undefA, T.getD 20 undefA, T.getD 21 undefA, T.getD 22 undefA, T.getD 23 undefA, T.getD 24 undefA, T.getD 25 undefA] := by
 have := expand T
 rw [h] at this
 exact this
theorem ints_true (h23 : S 23 = none) {H : Heap} {x y : AV} {xs : List Int} (hx : Sl H x xs) (hy : Sl H y xs) (hl : xs.length <= 1000000) :
  Cl (ctx.plus S) 23 [x, y] H fun r H' => r = .bool true /\ H = H' := by
 refine cl_of h23 fn23 ?_
 have hT : (ctx.plus S).ty = tget := rfl
 refine ⟨_, len_sl hT (v := x) rfl hx, ?_⟩
 refine ⟨_, len_sl hT (v := y) rfl hy, ?_⟩
 refine ⟨fun h => absurd rfl h, fun _ => ?_⟩
 refine ⟨fun m s => ∃ (i : Nat) (n : Int) (T : List AV), s = ⟨T, H, []⟩ /\ T.length = 26 /\ T.getD 0 undefA = x /\ T.getD 1 undefA = y /\ T.getD 5 undefA = iv n /\ m = xs.length - i /\ n = i /\ i <= xs.length, ⟨xs.length, ?_⟩, ?_⟩
 ·exact ⟨0, _, _, rfl, rfl, rfl, rfl, rfl, rfl, rfl, Nat.zero_le _⟩
 ·rintro m s ⟨i, n, T, rfl, hTl, h0t, h1t, h5t, hm, rfl, hi⟩
  obtain ⟨J, rfl⟩ : ∃ J : Nat -> AV, T = [x, y, J 2, J 3, J 4, iv i, J 6, J 7, J 8, J 9, J 10, J 11, J 12, J 13, J 14, J 15, J 16, J 17, J 18, J 19, J 20, J 21, J 22, J 23, J 24, J 25] := ⟨fun i => T.getD i undefA, (ex26 T hTl).trans (by rw [h0t, h1t, h5t])⟩
  clear hTl h0t h1t h5t
  refine ⟨_, len_sl hT (v := x) rfl hx, ?_⟩
  refine ⟨fun hlt => ?_, fun hge => ?_⟩
  ·obtain ⟨e, he⟩ : ∃ e, xs[i]? = some e := ⟨xs[i]'(by omega), List.getElem?_eq_getElem _⟩
   have hne : xs ≠ [] := by intro h; subst h; simp at he
   obtain ⟨bx, ox, hbx, hax⟩ := hx.addr hne
   obtain ⟨b2, o2, hb2, ha2⟩ := hy.addr hne
   have lx : loadE (ctx.plus S) 3 (addr x i) H = some (iv e) := load_sl hT hx he
   have ly : loadE (ctx.plus S) 3 (addr y i) H = some (iv e) := load_sl hT hy he
   have lx' : loadE (ctx.plus S) 3 (.ptr bx (ox + i)) H = some (iv e) := by rw [← hax]; exact lx
   have ly' : loadE (ctx.plus S) 3 (.ptr b2 (o2 + i)) H = some (iv e) := by rw [← ha2]; exact ly
   have si : ∀ n : Int, (iv n).same (iv n) = true := fun n => by simp [AV.same, AV.sames]
   refine ⟨_, idx_sl hT (v := x) (n := (i : Int)) (k := i) rfl rfl hx rfl (by omega), ?_⟩
   refine ⟨_, lx, ?_⟩
   refine ⟨_, idx_sl hT (v := y) (n := (i : Int)) (k := i) rfl rfl hy rfl (by omega), ?_⟩
   refine ⟨_, ly, ?_⟩
   refine ⟨fun h => absurd rfl h, fun _ => ?_⟩
   refine ⟨draw_of2 H 9 (by kernel_rfl) rfl ?_ ?_ ?_, ?_⟩
   ·exact ⟨trivial, trivial, trivial, ⟨_, _, _, congrArg some (hax _), hbx, lx', si _⟩, trivial, trivial, trivial, ⟨_, _, _, congrArg some (ha2 _), hb2, ly', si _⟩, trivial, trivial⟩
   ·repeat' (first | exact trivial | refine ⟨fun _ _ => rfl, ?_⟩)
   ·repeat' (first | exact trivial | refine ⟨Nat.le_refl _, ?_⟩)
   refine ⟨⟨by omega, by omega⟩, ?_⟩
   exact ⟨xs.length - (i + 1), by omega, i + 1, _, _, rfl, rfl, rfl, rfl, rfl, rfl, rfl, by omega⟩
  ·exact ⟨rfl, rfl⟩
end
section
variable {C : Ctx} (hT : C.ty = tget)
include hT
theorem len_any {ρ : Operand -> Option AV} {x : Operand} {v : AV} {n : Nat} {t e : TypeId} {i : TI} (ht : C.ty t = some i) (hd : i.desc = .slice e) (hx : ρ x = some v) (h : slen v = some n) :
  pureE C ρ (.call { callee := .builtin .len, args := #[x], argTypes := #[t] }) = some (iv n) := by
 obtain ⟨d, a, b, c⟩ := i
 simp only at hd
 subst hd
 simp only [pureE, opds, hx, builtinP, ht]
 cases v <;> simp only [slen] at h <;> first | (cases h; done) | (cases h; rfl)
end
def SA : FuncId -> Option (List AV -> Heap -> Option (AV × Heap)) := fun f => if f = 20 then some sTrue else none
noncomputable def ctxA : Ctx := ctx.plus SA
theorem oldA : OldI SA := ⟨⟨rfl, rfl, rfl, rfl, rfl⟩, rfl, rfl, rfl, rfl, rfl, rfl, rfl, rfl, rfl, rfl, rfl, rfl, rfl, rfl, rfl, rfl, rfl, rfl, rfl, rfl, rfl, rfl, rfl, rfl⟩
theorem ctxA_fine : Ctx.Ok Tryz.prog ctxA := by
 obtain ⟨H, h⟩ := isTrue_some run20
 refine Ctx.plus_ok2 (C := ctx) ctx_ok (T := SA) fun f s hf => ?_
 unfold SA at hf
 split at hf
 ·rename_i he
  subst he
  cases hf
  exact .inr (closed_true ctx1_ok (quick_sim h))
 ·cases hf
theorem nc3' : Tryz.prog.cellsOf 3 = 1 := by kernel_rfl
theorem cp_of {μ : M} {v : AV} {A : Option Addr} {L C : Nat} (h : VR μ v (.slice A L C)) (hLC : L <= C) : Cp v := by
 cases h <;> first | exact hLC | trivial
theorem imp_ints {H : Type} {enc : TypeId × Value -> H} {W : World} {μ : M} {Hp : Heap} (h : Imp W μ Hp) (hn : Hp.n + 2 < lim) {fuel : Nat} {v : Value} {y : DataW H × List MemPlace}
  (h1 : DataW.trod enc Tryz.prog W 0 (fun _ => true) true fuel 22 [v] = some y) :
  ∃ (μ' : M) (H' : Heap) (b : AV) (xs : List Int), Imp W μ' H' /\ M.le μ μ' /\ (∀ B, B < Hp.n -> H'.get B = Hp.get B) /\ Hp.n <= H'.n /\ H'.n <= Hp.n + 1 /\ VR μ' b v /\ Seen H' b xs /\ Cp b /\ xs.length <= 9223372036854775807 /\ ∀ e ∈ xs, In64 e := by
 have hm : maxLen = 9223372036854775807 := rfl
 rcases open_ints Tryz.underlying22 Tryz.underlying3 nc3' h1 with ⟨hcs, -⟩ | ⟨a, len, cap, zs, hcs, -, hl, hc, hz, -, hcell, hwf⟩
 ·obtain rfl : v = .slice none 0 0 := by simpa using hcs
  exact ⟨μ, Hp, .nils, [], h, M.le.refl _, fun _ _ => rfl, Nat.le_refl _, by omega, .nils, ⟨rfl, fun _ => rfl⟩, trivial, by simp, fun e he => (List.not_mem_nil he).elim⟩
 ·obtain rfl : v = .slice (some a) len cap := by simpa using hcs
  simp only [if_true] at hz
  obtain ⟨μ', H', v', g1, g2, g3, g4, g5, g6, g7⟩ := imp_slice (A := some a) (L := len) (C := cap) (Z := zs) h (by omega) hl (by omega) (fun e => by cases e) (fun a' ha' c hcl => by
   cases ha'
   exact hcell c (by omega))
  refine ⟨μ', H', v', _, g1, g2, g3, g4, g5, g6, g7, cp_of g6 hl, by simp; omega, fun e he => ?_⟩
  have := hwf e (List.mem_of_mem_take he)
  simp only [Lit.wf, Bool.and_eq_true, decide_eq_true_eq] at this
  have e1 : IntKind.min .i64 = -9223372036854775808 := by decide
  have e2 : IntKind.max .i64 = 9223372036854775807 := by decide
  rw [e1, e2] at this
  unfold In64
  omega
end Go.PI
open Go.Proofs
namespace Go.PI
open IM
set_option maxRecDepth 10000
set_option maxHeartbeats 4000000
theorem fn44 : ctx.fn 44 = some c44 := by kernel_rfl
theorem fn47 : ctx.fn 47 = some c47 := by kernel_rfl
variable (S : FuncId -> Option (List AV -> Heap -> Option (AV × Heap)))
abbrev zIv : List PV := [.lst 0 [], .lst 0 [], .lst 0 [], pn 0]
abbrev zNear : List PV := [.lst 0 [], .lst 0 [], .lst 0 [], .lst 0 [], .lst 0 [], .lst 0 [], .lst 0 [], .lst 0 [], .lst 0 []]
structure OldO (S : FuncId -> Option (List AV -> Heap -> Option (AV × Heap))) : Prop where
 k : OldK S
 e : OldE S
 h44 : S 44 = none
 h46 : S 46 = none
 h47 : S 47 = none
 h23 : S 23 = none
def OpQ (P : List Int) (lo hi den : Int) (r : PV) : Prop :=
 (∃ e, CkP P lo hi den e /\ e ≠ 0 /\ r = .tup [.nilp, pn e]) ∨ (CkP P lo hi den 0 /\ ∃ (deg : Int) (st : List PV), st.length = 13 /\ r = .tup [.lptr (rCells P lo hi den deg P st), pn 0])
theorem open_ct (hS : OldO S) {P : List Int} {lo hi den : Int} (hl : P.length <= 8) : Ct (ctx.plus S) 44 [pF P lo hi den] 6000000000 (OpQ P lo hi den) := by
 refine ct_of hS.h44 fn44 ?_
 refine ⟨by omega, ?_⟩
 refine ⟨pF P lo hi den, rfl, ?_⟩
 refine callq rfl (check_ct S hS.k hl) (by omega) ?_
 rintro _ ⟨e, he, rfl⟩
 refine ⟨fun h1 => ?_, fun h1 => ?_⟩
 ·exact endsq rfl (.inl ⟨e, he, h1, rfl⟩)
 have h1 : e = 0 := by omega
 subst h1
 obtain ⟨c1, c2, c3, c4⟩ : ¬ (P.length < 2 ∨ 5 < P.length) /\ InR P lo hi den /\ ¬ (P.getD (P.length - 1) 0 ≠ 1 ∨ (P.length ≠ 2 /\ HasP P)) /\ ¬ (hi < lo) := by
  cases he with
  | ok a b c d _ => exact ⟨a, b, c, d⟩
 obtain ⟨D, hD⟩ : ∃ D, P.length = D + 1 := ⟨P.length - 1, by omega⟩
 have eD : (P.length : Int) - 1 = (D : Int) := by omega
 have hP2 : P ≠ [] := by rintro rfl; simp at hD
 have hlast : P.getD (P.length - 1) 0 = 1 := by
  rcases Decidable.em (P.getD (P.length - 1) 0 = 1) with h | h
  ·exact h
  ·exact absurd (.inl h) c3
 have bL : B2s 12 P := fun x hx => by have := c2.1 x hx; unfold B2; omega
 have hout : ∀ deg st, st.length = 13 -> OpQ P lo hi den (.tup [.lptr (rCells P lo hi den deg P st), pn 0]) := fun deg st h => .inr ⟨he, deg, st, h, rfl⟩
 refine ⟨_, rfl, ?_⟩
 refine callq rfl (clone_ct S hS.k.c.i.h109 (xs := P) (by omega)) (by omega) ?_
 rintro _ rfl
 refine ⟨_, _, rfl, ⟨rfl, Nat.le_of_ble_eq_true rfl, rfl⟩, _, rfl, [.live 46 [pIs P, pn lo, pn hi, pn den]], rfl, ?_⟩
 refine ⟨by kernel_rfl, ?_⟩
 refine ⟨_, rfl, rfl, ?_⟩
 refine ⟨_, rfl, rfl, ?_⟩
 refine ⟨⟨by omega, by omega⟩, ?_⟩
 rw [eD]
 refine ⟨_, rfl, rfl, ?_⟩
 refine callq rfl (lists_ct S hS.k.c.i hS.k.c.h134 c2.1 hl) (by omega) ?_
 rintro _ rfl
 refine part3 (fun K hK => frzAK_clo rfl hK) fzI fzL ⟨rCells P lo hi den D P (zIv ++ zNear), rfl, ?_⟩
 refine ⟨by omega, ?_⟩
 refine ⟨_, rfl, ?_⟩
 refine ⟨fun h2 => ?_, fun h2 => ?_⟩
 ·have hno : ¬ HasP P := fun hh => c3 (.inr ⟨by omega, hh⟩)
  have hr : ∀ x y, 1 <= y -> (vS P x y).1 ≠ 0 := fun x y hy => no_rat hP2 hlast (fun b => by
   cases P with
   | nil => exact absurd rfl hP2
   | cons p0 cs => exact no_root hno b) hy
  refine calb (lend_own (cs := rCells P lo hi den D P (zIv ++ zNear)) rfl) rfl (by simp) (first_cb S hS.e c2.2.2.1 c2.2.2.2 (by omega) c2.2.1 bL hl hr) (by omega) ?_
  rintro _ ⟨a, w, d, h, ba, bw, hd1, bd, rfl⟩
  refine ⟨_, _, rfl, ⟨rfl, Nat.le_of_ble_eq_true rfl, rfl⟩, _, rfl, [.live 46 [pIs P, pn lo, pn hi, pn den], .live 147 (rCells P lo hi den D P (iCells a w d h ++ zNear))], rfl, ?_⟩
  refine ⟨_, rfl, ?_⟩
  refine calb (lend_own (cs := rCells P lo hi den D P (iCells a w d h ++ zNear)) rfl) rfl (by simp) (enclose_cb S hS.e (D := D) (a := a) (w := w) (d := d) (h := h) (by omega) ba bw bd) (by omega) ?_
  rintro _ ⟨x0, x1, x2, x3, x4, x5, x6, x7, x8, rfl⟩
  refine ⟨_, _, rfl, ⟨rfl, Nat.le_of_ble_eq_true rfl, rfl⟩, _, rfl, [.live 46 [pIs P, pn lo, pn hi, pn den], .live 147 (rCells P lo hi den D P (iCells a w d h ++ [pI x0, pI x1, pI x2, pI x3, pI x4, pI x5, pI x6, pI x7, pI x8]))], rfl, ?_⟩
  exact ⟨⟨147, _, rfl, Nat.zero_le _, hout _ _ rfl⟩⟩
 ·exact ⟨⟨147, _, rfl, Nat.zero_le _, hout _ _ rfl⟩⟩
theorem field_ct (hS : OldO S) {P : List Int} {lo hi den deg : Int} {st : List PV} (hl : P.length <= 8) (hst : st.length = 13) : Ct (ctx.plus S) 47 [.lptr (rCells P lo hi den deg P st)] 100 fun r => r = pF P lo hi den := by
 refine ct_of hS.h47 fn47 ?_
 refine ⟨by omega, ?_⟩
 refine ⟨(show 0 <= st.length + 6 by omega), _, rfl, ?_⟩
 refine ⟨by omega, ?_⟩
 refine ⟨_, _, rfl, ⟨rfl, Nat.le_of_ble_eq_true rfl, rfl⟩, _, rfl, [.live 46 [.lst 0 [], pn 0, pn 0, pn 0], .live 46 [pIs P, pn lo, pn hi, pn den]], rfl, ?_⟩
 refine ⟨_, rfl, ?_⟩
 refine callq rfl (clone_ct S hS.k.c.i.h109 (xs := P) (by omega)) (by omega) ?_
 rintro _ rfl
 refine ⟨_, _, rfl, ⟨rfl, Nat.le_of_ble_eq_true rfl, rfl⟩, _, rfl, [.live 46 [.lst 0 [], pn 0, pn 0, pn 0], .live 46 [pIs P, pn lo, pn hi, pn den]], rfl, ?_⟩
 refine ⟨_, rfl, ?_⟩
 refine ⟨_, _, rfl, ⟨rfl, Nat.le_of_ble_eq_true rfl, rfl⟩, _, rfl, [.live 46 [pIs P, pn lo, pn hi, pn den], .live 46 [pIs P, pn lo, pn hi, pn den]], rfl, ?_⟩
 refine ⟨_, rfl, ?_⟩
 exact endq rfl rfl
theorem ints_ct (h23 : S 23 = none) {xs : List Int} (hl : xs.length <= 1000000) : Ct (ctx.plus S) 23 [pIs xs, pIs xs] 1 fun r => r = .bool true := by
 intro H W avs hw hr hn
 cases hr with
 | cons h1 hr => cases hr with
  | cons h2 hr =>
   cases hr
   refine (ints_true S h23 (sl_rel h1).1 (sl_rel h2).1 hl).mono ?_
   rintro r H' ⟨rfl, rfl⟩
   exact ⟨_, rfl, .bool _, KpH.refl _ _⟩
theorem fn46 : ctx.fn 46 = some c46 := by kernel_rfl
theorem same_ct (hS : OldO S) {P : List Int} {lo hi den : Int} (hl : P.length <= 8) : Ct (ctx.plus S) 46 [pF P lo hi den, pF P lo hi den] 100 fun r => r = .bool true := by
 refine ct_of hS.h46 fn46 ?_
 refine ⟨by omega, by omega, ?_⟩
 refine ⟨_, rfl, ?_⟩
 refine ⟨_, rfl, ?_⟩
 refine callq rfl (ints_ct S hS.h23 (xs := P) (by omega)) (by omega) ?_
 rintro _ rfl
 refine ⟨_, rfl, ?_⟩
 refine ⟨_, rfl, ?_⟩
 refine ⟨fun _ => ?_, fun h => absurd rfl h⟩
 refine ⟨_, rfl, ?_⟩
 refine ⟨_, rfl, ?_⟩
 refine ⟨fun _ => ?_, fun h => absurd rfl h⟩
 refine ⟨_, rfl, ?_⟩
 refine ⟨_, rfl, ?_⟩
 refine ⟨fun _ => ?_, fun h => absurd rfl h⟩
 exact endq rfl rfl
theorem fn6 : ctx.fn 6 = some c6 := by kernel_rfl
theorem awake_ct : Ct ctxA 20 [] 1 fun r => r = .bool true := by
 intro H W avs hw hr hn
 cases hr
 refine Cl.of_sum (v := .bool true) (H' := H) rfl ?_
 exact ⟨_, rfl, .bool _, KpH.refl _ _⟩
theorem fields_ct (hO : OldO SA) (hG : OldG SA) {P : List Int} {lo hi den : Int} (hlen : P.length <= 9223372036854775807) : Ct ctxA 6 [pF P lo hi den] 60000000000 fun r => r = .bool true := by
 refine ct_of rfl fn6 ?_
 refine ⟨by omega, ?_⟩
 refine ⟨_, rfl, ?_⟩
 refine ⟨fun h8 => ?_, fun h8 => ?_⟩
 ·refine callq rfl awake_ct (by omega) ?_
  rintro _ rfl
  exact endq rfl rfl
 have hl : P.length <= 8 := by omega
 refine ⟨pF P lo hi den, rfl, ?_⟩
 refine callq rfl (rcheck_ct SA hG hl) (by omega) ?_
 rintro _ ⟨e, he, rfl⟩
 refine ⟨pF P lo hi den, rfl, ?_⟩
 refine callq rfl (open_ct SA hO hl) (by omega) ?_
 rintro _ (⟨e1, h1, hne, rfl⟩ | ⟨h1, deg, st, hst, rfl⟩)
 ·have := chk_same h1 he
  subst this
  refine ⟨pF P lo hi den, rfl, ?_⟩
  refine callq rfl (check_ct SA hO.k hl) (by omega) ?_
  rintro _ ⟨e2, h2, rfl⟩
  have := chk_same h2 he
  subst this
  refine ⟨fun h => absurd rfl h, fun _ => ?_⟩
  refine ⟨fun h => absurd rfl h, fun _ => ?_⟩
  refine ⟨fun _ => ?_, fun h => absurd h hne⟩
  refine ⟨by kernel_rfl, ?_⟩
  refine ⟨fun _ => ?_, fun h => absurd h hne⟩
  refine callq rfl awake_ct (by omega) ?_
  rintro _ rfl
  exact endq rfl rfl
 ·have := chk_same h1 he
  subst this
  refine ⟨pF P lo hi den, rfl, ?_⟩
  refine callq rfl (check_ct SA hO.k hl) (by omega) ?_
  rintro _ ⟨e2, h2, rfl⟩
  have := chk_same h2 he
  subst this
  refine ⟨fun h => absurd rfl h, fun _ => ?_⟩
  refine ⟨fun h => absurd rfl h, fun _ => ?_⟩
  refine ⟨fun h => absurd rfl h, fun _ => ?_⟩
  refine ⟨by kernel_rfl, ?_⟩
  refine ⟨fun h => absurd rfl h, fun _ => ?_⟩
  refine callq rfl (field_ct SA hO hl hst) (by omega) ?_
  rintro _ rfl
  refine ⟨pF P lo hi den, rfl, rfl, ?_⟩
  refine callq rfl (same_ct SA hO hl) (by omega) ?_
  rintro _ rfl
  refine callq rfl awake_ct (by omega) ?_
  rintro _ rfl
  exact endq rfl rfl
end Go.PI
open Go.Proofs
namespace Go.PI
open Go.ChangeShapes Go.WideShapes Go.ChangeAt Go.RowKit
open IM
set_option maxRecDepth 100000
theorem nc46 : Tryz.prog.cellsOf 46 = 4 := by kernel_rfl
theorem nc22 : Tryz.prog.cellsOf 22 = 1 := by kernel_rfl
theorem rel_of_sl {H : Heap} {x : AV} {xs : List Int} (h : Sl H x xs) (hc : Cp x) : RelC H (fun _ => False) (pIs xs) x := by
 have hr : ∀ {cs : List AV} {o : Nat}, (cs.drop o).take xs.length = ints xs -> All2 (RelC H fun _ => False) (xs.map pn) ((cs.drop o).take (xs.map pn).length) := fun h => by
  rw [List.length_map, h]
  exact rel_ints xs
 unfold Sl at h
 split at h
 ·subst h; exact .lnil
 ·subst h; exact .lsle
 ·obtain ⟨rfl, rw, ty, cs, h1, h2, h3⟩ := h
  exact .sl (fun h => h) h1 (by rw [List.length_map]; exact h2) hc (hr h3)
 ·obtain ⟨rfl, rfl, rw, ty, cs, h1, h2, h3⟩ := h
  exact .slu (fun h => h) h1 (by rw [List.length_map]; exact h2) ⟨by simp, fun _ => rfl⟩ (hr h3)
 ·exact h.elim
theorem oldCA : OldC SA := ⟨oldA, rfl, rfl, rfl, rfl, rfl, rfl, rfl, rfl, rfl⟩
theorem oldKA : OldK SA := by constructor <;> first | exact oldCA | rfl
theorem oldEA : OldE SA := ⟨oldCA, rfl, rfl, rfl, rfl, rfl, rfl⟩
theorem oldOA : OldO SA := ⟨oldKA, oldEA, rfl, rfl, rfl, rfl⟩
theorem oldRA : OldR SA := ⟨rfl, rfl, rfl, rfl, rfl, rfl, rfl, rfl, rfl, rfl, rfl, rfl, rfl, rfl, rfl, rfl, rfl⟩
theorem oldFA : OldF SA := ⟨oldRA, rfl, rfl, rfl, rfl, rfl⟩
theorem oldGA : OldG SA := ⟨oldFA, rfl, rfl, rfl, rfl⟩
theorem field_struct {H : Type} {enc : TypeId × Value -> H} {P : Program} {w : World} {base : Nat} {spare : Nat -> Bool} {held : Bool} {t : TypeId} {f0 f1 f2 f3 : Field} {fuel : Nat} {cs : List Value} {x : DataW H × List MemPlace} (ht : P.underlying t = some (.struct #[f0, f1, f2, f3])) (h : DataW.trod enc P w base spare held fuel t cs = some x) :
  ∃ y0 y1 y2 y3 n, cs.length = P.cellsOf t /\ DataW.trod enc P w base spare held n f0.type ((cs.drop f0.offset).take (P.cellsOf f0.type)) = some y0 /\ DataW.trod enc P w base spare held n f1.type ((cs.drop f1.offset).take (P.cellsOf f1.type)) = some y1 ∧
   DataW.trod enc P w base spare held n f2.type ((cs.drop f2.offset).take (P.cellsOf f2.type)) = some y2 /\ DataW.trod enc P w base spare held n f3.type ((cs.drop f3.offset).take (P.cellsOf f3.type)) = some y3 := by
 obtain ⟨xs, n, _, rfl, hl, hlen, hf⟩ := DataW.trod_struct ht h
 match xs, hlen with
 | [y0, y1, y2, y3], _ => exact ⟨y0, y1, y2, y3, n, hl, by simpa using hf 0 f0 rfl, by simpa using hf 1 f1 rfl, by simpa using hf 2 f2 rfl, by simpa using hf 3 f3 rfl⟩
theorem fields_long {H : Heap} {x : AV} {n : Nat} {lo hi den : Int} (hn : H.n + 10 < lim) (hx : slen x = some n) (h8 : 8 < n) (hb : n <= 9223372036854775807) : Cl ctxA 6 [.agg [x, iv lo, iv hi, iv den]] H fun r _ => r = .bool true := by
 refine cl_of rfl fn6 ?_
 have hT : ctxA.ty = tget := rfl
 refine ⟨by omega, ?_⟩
 have hp := Heap.get_push (H := H) (b := .cells true 46 [x, iv lo, iv hi, iv den]) (by omega)
 have hb : (H.push (.cells true 46 [x, iv lo, iv hi, iv den])).get H.n = .cells true 46 [x, iv lo, iv hi, iv den] := by rw [hp, if_pos rfl]
 have hl : loadE ctxA 22 (.ptr H.n 0) (H.push (.cells true 46 [x, iv lo, iv hi, iv den])) = some x := by
  simp only [loadE, ty22 hT, hb, partE, t22]; rfl
 refine ⟨.ptr H.n 0, rfl, ?_⟩
 refine ⟨_, hl, ?_⟩
 refine ⟨_, len_any hT (ty22 hT) rfl (v := x) rfl hx, ?_⟩
 refine ⟨fun _ => ?_, fun h => absurd h (by omega)⟩
 refine Cl.of_sum (v := .bool true) (H' := H.push (.cells true 46 [x, iv lo, iv hi, iv den])) rfl ?_
 exact rfl
theorem fld_calls {H : Type} {enc : TypeId × Value -> H} {W : World} {fu : Nat} {cs : Array Value} {y : DataW H × List MemPlace} (h0 : DataW.trod enc Tryz.prog W 0 (fun _ => true) true fu 46 cs.toList = some y) :
  Calls Tryz.prog 6 #[.agg cs] W fun e w' => e = .returned (.bool true) /\ Below W.heap.size W w' := by
 have hz : (⟨0, .nil⟩ : Heap).n = 0 := rfl
 have hlim : lim > 100000000000 := by unfold lim; omega
 obtain ⟨y0, y1, y2, y3, n, hl, t0, t1, t2, t3⟩ := field_struct Tryz.underlying46 h0
 rw [nc46] at hl
 obtain ⟨v0, v1, v2, v3, hcs⟩ : ∃ v0 v1 v2 v3, cs.toList = [v0, v1, v2, v3] := by
  match h : cs.toList, hl with
  | [a, b, c, d], _ => exact ⟨a, b, c, d, rfl⟩
 rw [hcs] at t0 t1 t2 t3
 simp only [nc22, nc3', List.drop, List.take] at t0 t1 t2 t3
 obtain ⟨lo, h1, -, -⟩ := DataW.trod_int Tryz.underlying3 t1
 obtain ⟨hi, h2, -, -⟩ := DataW.trod_int Tryz.underlying3 t2
 obtain ⟨den, h3, -, -⟩ := DataW.trod_int Tryz.underlying3 t3
 obtain rfl : v1 = .int .i64 lo := by simpa using h1
 obtain rfl : v2 = .int .i64 hi := by simpa using h2
 obtain rfl : v3 = .int .i64 den := by simpa using h3
 obtain ⟨μ1, H1, a, xs, i1, le1, k1, n1, m1, va, sa, ca, la, ia⟩ := imp_ints (imp0 W) (by omega) t0
 have law : Cl ctxA 6 [.agg [a, iv lo, iv hi, iv den]] H1 fun r _ => r = .bool true := by
  by_cases h8 : 8 < xs.length
  ·exact fields_long (by omega) sa.1 h8 la
  ·have hrel : RelC H1 (fun _ => False) (pF xs lo hi den) (.agg [a, iv lo, iv hi, iv den]) := .agg (.cons (rel_of_sl (sa.2 (by omega)) ca) (.cons (.int _ _) (.cons (.int _ _) (.cons (.int _ _) .nil))))
   refine (fields_ct oldOA oldGA (P := xs) (lo := lo) (hi := hi) (den := den) la H1 (fun _ => False) [_] (fun b h => h.elim) (.cons hrel .nil) (by omega)).mono ?_
   rintro r H' ⟨q, rfl, hq, -⟩
   cases hq
   rfl
 obtain ⟨k, r, H', hc, rfl⟩ := law
 have hC := ctxA_fine
 have hv : VR μ1 (.agg [a, iv lo, iv hi, iv den]) (.agg cs) := .agg (by rw [hcs]; exact .cons va (.cons (.int _ _) (.cons (.int _ _) (.cons (.int _ _) .nil))))
 rcases callF_sim hC (sound hC k) hc (args := #[.agg cs]) (.cons hv .nil) i1.hr with ⟨u, w', hrun, -⟩ | ⟨-, hcalls⟩
 ·exfalso
  obtain ⟨fn', f1, f2, f3, f4, f5⟩ := hC.fn 6 _ (show ctxA.fn 6 = some c6 from fn6)
  have f5' : ¬ fn'.name = "runtime.NumGoroutine" := by simpa using f5
  simp [callFunc, f1, f5', f4] at hrun
 ·have hw : Calls Tryz.prog 6 #[.agg cs] W fun e w' => ∃ u, e = .returned u /\ EffR μ1 H1 W (.bool true) H' u w' := callsIn_wide.1 (hcalls Fence.wide 0 ⟨fun _ => trivial, rfl⟩)
  refine hw.mono ?_
  rintro e w' ⟨u, rfl, hE⟩
  refine ⟨?_, below_of i1.no hE⟩
  obtain ⟨μ', hv, -⟩ := hE
  rw [hv.bool_inv]
end Go.PI
