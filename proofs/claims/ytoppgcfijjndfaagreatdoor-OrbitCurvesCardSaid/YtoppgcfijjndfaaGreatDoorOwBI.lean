/- Own work of the verifier: PiRowG PiImp OrArg. -/
import Derived.Test.YtoppgcfijjndfaaGreatDoorOwAM
import Derived.ProofKit
import Derived.LaidMore
import Derived.OpenShut
import Derived.Stop.Joined
import Derived.Below
import Derived.Test.YtoppgcfijjndfaaGreatDoorOwAR
import Derived.Test.YtoppgcfijjndfaaGreatDoorOwAW
import Derived.Test.YtoppgcfijjndfaaGreatDoorOwBH
import Derived.Lib.SmallJoins
import Derived.ChangeSlices
set_option linter.all false
set_option exponentiation.threshold 3000
set_option linter.deprecated false
/- FROM THE INTERPRETER's WORD TO A ROW. -/
namespace Go.PI
open Go.ChangeShapes Go.WideShapes Go.ChangeAt Go.RowKit
theorem post_of_below {H : Type} {enc : TypeId × Value → H} {P : Program} {f : Func} {s : ChangeSpec} {apart fresh handsOn again : Bool} {W W' : World} {args : Array Value} {v : Value} {ds gs : List (DataW H)} {before pa pv : List MemPlace}
    (hW : DataW.Whole enc P f.params.toList s.vars apart W args.toList ds gs before)
    (hres : ∀ (b : Nat) (sp : Nat → Bool) (hd : Bool), DataW.TrodAll enc P W' b sp hd f.resultTypes.toList (v.resultList f.resultTypes.size) (s.fn H (ds ++ gs)).results [])
    (hargs : ∀ sp : Nat → Bool, (∀ p ∈ before, sp p.block = true) → DataW.TrodAll enc P W' 0 sp true f.params.toList args.toList (s.fn H (ds ++ gs)).args pa)
    (hvars : ∀ sp : Nat → Bool, (∀ p ∈ before, sp p.block = true) → DataW.TrodVars enc P W' sp s.vars (s.fn H (ds ++ gs)).vars pv)
    (hps : before = pa ++ pv) (hB : Below W.heap.size W W')
    (hok : ∀ (j : Nat) (t : TypeId) (r : Value), f.resultTypes[j]? = some t → (v.resultList f.resultTypes.size)[j]? = some r → Value.okWide P W' .any 0 t r) :
    s.post enc P f apart fresh handsOn again W args v W' := by
  have hold : ∀ p ∈ before, (fun b => decide (b < W.heap.size)) p.block = true := fun p hp => by simpa using hW.lt p hp
  have hlt := fun p hp => hW.lt p hp
  refine ⟨ds, gs, before, [], pa, pv, hW, hres _ _ _, hargs _ hold, hvars _ hold, World.keptBut_mono (fun p hp => ⟨hp, ?_⟩) (hB.frame (· ∈ before)), fun _ => ?_⟩
  · rw [hps, List.mem_append] at hp
    exact Or.inr hp
  · obtain ⟨_, _, _, _, _, hz, hn⟩ := hW
    refine ⟨hok, _, _, ([] ++ pa) ++ pv, ⟨[] ++ pa, pv, trodAll_append (hargs _ (fun _ _ => rfl)) (hres _ _ _), hvars _ (fun _ _ => rfl), rfl, ?_, ?_⟩, ?_⟩
    · intro b off hp
      have hp2 := hz b off (by rw [hps]; simpa using hp)
      have hp3 := hlt _ (by rw [hps]; simpa using hp)
      rw [hB.frozen (p := ⟨b, off, none⟩) hp3]
      exact hp2
    · intro ha
      have := hn ha
      rw [hps] at this
      simpa using this
    · intro p hp _
      rw [hps]
      simpa using hp
end Go.PI
/- ARGUMENTS: slices of integers that came in, as blocks that are only read. -/
namespace Go.PI
open Go.ChangeShapes Go.WideShapes Go.ChangeAt Go.RowKit
def NoOwn (H : Heap) : Prop := ∀ A, (H.get A).own = false
structure Imp (W : World) (μ : M) (H : Heap) : Prop where
  hr : HR μ H W
  no : NoOwn H
theorem below_of {μ : M} {H H' : Heap} {w w' : World} {v : AV} {u : Value} (hno : NoOwn H) (h : EffR μ H w v H' u w') : Below w.heap.size w w' := by
  obtain ⟨μ', -, -, hf⟩ := h
  refine ⟨hf.os, hf.tape, hf.output, hf.size, fun k hk => (hf.keep k hk ?_).1⟩
  rintro ⟨A, a, ho, -⟩
  rw [hno A] at ho
  cases ho
theorem imp0 (W : World) : Imp W (fun _ => none) ⟨0, .nil⟩ :=
  ⟨⟨by simp [PI.lim], fun _ _ => rfl, fun A bi hl hm => (by cases hm), fun A B a b _ _ _ hm => (by cases hm)⟩, fun A => by unfold Heap.get; simp [Blk.own]⟩
theorem Imp.push {W : World} {μ : M} {H : Heap} (h : Imp W μ H) (hn : H.n < lim) {bi : BI} {b : Blk} (ho : b.own = false) (hb : b.live = true → bi.c < W.heap.size ∧ BlkR (μ.set H.n bi) W bi b) :
    Imp W (μ.set H.n bi) (H.push b) ∧ M.le μ (μ.set H.n bi) := by
  have hle : M.le μ (μ.set H.n bi) := M.le_set (h.hr.dom _ (Nat.le_refl _))
  have hp := Heap.get_push (H := H) (b := b) hn
  refine ⟨⟨⟨?_, ?_, ?_, ?_⟩, ?_⟩, hle⟩
  · show H.n + 1 ≤ lim
    omega
  · intro A hA
    have hA : H.n + 1 ≤ A := hA
    unfold M.set
    rw [if_neg (by omega)]
    exact h.hr.dom A (by omega)
  · intro A bj hl hm
    rw [hp] at hl ⊢
    by_cases hA : A = H.n
    · subst hA
      rw [if_pos rfl] at hl ⊢
      rw [M.set_self] at hm
      cases hm
      exact hb hl
    · rw [if_neg hA] at hl ⊢
      unfold M.set at hm
      rw [if_neg hA] at hm
      obtain ⟨h1, h2⟩ := h.hr.blk A bj hl hm
      exact ⟨h1, h2.mono hle rfl⟩
  · intro A B a b' hAB hA
    rw [hp] at hA
    by_cases hA' : A = H.n
    · rw [if_pos hA', ho] at hA; cases hA
    · rw [if_neg hA', h.no A] at hA; cases hA
  · intro A
    rw [hp]
    by_cases hA : A = H.n
    · rw [if_pos hA]; exact ho
    · rw [if_neg hA]; exact h.no A
def slen : AV → Option Nat
  | .nils | .sle => some 0
  | .sl _ _ n _ | .slu _ _ n _ => some n
  | _ => none
def Seen (H : Heap) (v : AV) (xs : List Int) : Prop := slen v = some xs.length ∧ (xs.length ≤ 1000 → Sl H v xs)
theorem Seen.mono {H H' : Heap} {v : AV} {xs : List Int} (h : Seen H v xs) (k : ∀ A, A < H.n → H'.get A = H.get A) : Seen H' v xs := ⟨h.1, fun hl => (h.2 hl).mono k⟩
theorem cell_zero {W : World} {a : Addr} {v : Value} (h : W.cell? (a.add 0) = some v) : a = ⟨a.block, a.off, none⟩ := by
  obtain ⟨b, o, s⟩ := a
  cases s with
  | none => rfl
  | some s =>
    unfold World.cell? at h
    simp only [Addr.add, if_true] at h
    split at h
    · simp at h
    · cases h
theorem cell_row {W : World} {b o i : Nat} {v : Value} (h : W.cell? (Addr.add ⟨b, o, none⟩ i) = some v) : ∃ carr ty fz, W.heap[b]? = some (.cells carr ty fz) ∧ carr[o + i]? = some v := by
  have e : Addr.add ⟨b, o, none⟩ i = ⟨b, o + i, none⟩ := by
    unfold Addr.add
    split
    · rename_i h0; subst h0; rfl
    · rfl
  rw [e] at h
  unfold World.cell? at h
  split at h
  · rename_i carr ty fz hc
    exact ⟨carr, ty, fz, hc, by simpa using h⟩
  · cases h
end Go.PI
/- THE ARGUMENTS OF THE LAWS OF ORBITS. -/
open Go.Proofs
namespace Go.PI
open Go.ChangeShapes Go.WideShapes Go.ChangeAt Go.RowKit
open IM
set_option maxRecDepth 100000
set_option maxHeartbeats 4000000
theorem imp_sliceF {W : World} {μ : M} {H : Heap} (h : Imp W μ H) (hn : H.n < lim) {A : Option Addr} {L C : Nat} {Z : List Int} (hLC : L ≤ C) (hZ : L ≤ Z.length) (h0 : A = none → C = 0)
    (hc : ∀ a, A = some a → ∀ c, c < L → W.cell? (a.add c) = some (.int .i64 (Z.getD c 0))) :
    ∃ μ' H' v', Imp W μ' H' ∧ M.le μ μ' ∧ (∀ B, B < H.n → H'.get B = H.get B) ∧ H.n ≤ H'.n ∧ H'.n ≤ H.n + 1 ∧ VR μ' v' (.slice A L C) ∧ Sl H' v' (Z.take L) := by
  have hlen : (Z.take L).length = L := by simp; omega
  cases A with
  | none =>
    have hC := h0 rfl
    obtain rfl : C = 0 := hC
    obtain rfl : L = 0 := by omega
    exact ⟨μ, H, .nils, h, M.le.refl _, fun _ _ => rfl, Nat.le_refl _, Nat.le_succ _, .nils, rfl⟩
  | some a =>
    by_cases hL : L = 0
    · subst hL
      exact ⟨μ, H, .sle, h, M.le.refl _, fun _ _ => rfl, Nat.le_refl _, Nat.le_succ _, .sle _ _, rfl⟩
    · have ha := cell_zero (hc a rfl 0 (by omega))
      have hc' : ∀ c, c < L → W.cell? (Addr.add ⟨a.block, a.off, none⟩ c) = some (.int .i64 (Z.getD c 0)) := fun c hcl => by rw [← ha]; exact hc a rfl c hcl
      obtain ⟨carr, ty, fz, hb, -⟩ := cell_row (hc' 0 (by omega))
      have hlt : a.block < W.heap.size := by
        rcases Nat.lt_or_ge a.block W.heap.size with h1 | h1
        · exact h1
        · rw [Array.getElem?_eq_none h1] at hb; cases hb
      have hp := fun b => Heap.get_push (H := H) (b := b) hn
      · have hcells : ∀ c, c < L → carr[a.off + c]? = some (.int .i64 (Z.getD c 0)) := fun c hcl => by
          obtain ⟨carr2, ty2, fz2, hb2, hv⟩ := cell_row (hc' c hcl)
          rw [hb] at hb2
          cases hb2
          exact hv
        have hsz : a.off + L ≤ carr.size := by
          have := hcells (L - 1) (by omega)
          have := (Array.getElem?_eq_some_iff.1 this).1
          omega
        obtain ⟨cs, hcs⟩ : ∃ cs, cs = (carr.toList.take a.off).map AV.raw ++ ints (Z.take L) := ⟨_, rfl⟩
        have hcl : cs.length = a.off + L := by rw [hcs, List.length_append, List.length_map, List.length_take, ints_length, hlen, Array.length_toList]; omega
        have hvs : ∀ ν : M, VRs ν cs (carr.toList.take cs.length) := fun ν => by
          rw [hcl, hcs]
          have e : carr.toList.take (a.off + L) = carr.toList.take a.off ++ (carr.toList.drop a.off).take L := by rw [List.take_add]
          rw [e]
          refine All2.append (anys ν _) ?_
          have e2 : (carr.toList.drop a.off).take L = (Z.take L).map (Value.int .i64) := by
            apply List.ext_getElem?
            intro i
            by_cases hi : i < L
            · rw [List.getElem?_take, if_pos hi, List.getElem?_drop, Array.getElem?_toList, hcells i hi, List.getElem?_map, List.getElem?_take, if_pos hi]
              rw [List.getD_eq_getElem?_getD, List.getElem?_eq_getElem (by omega)]
              simp
            · rw [List.getElem?_take, if_neg hi, List.getElem?_map, List.getElem?_take, if_neg hi]; rfl
          rw [e2]
          generalize Z.take L = xs
          induction xs with
          | nil => exact .nil
          | cons x xs ih => exact .cons (.int _ _) ih
        obtain ⟨h1, h2⟩ := h.push hn (bi := ⟨a.block, carr.size, 0⟩) (b := .cells false ty cs) rfl (fun _ => ⟨hlt, blk0 rfl ⟨carr, fz, hb, rfl, by omega, hvs _, fun e => by cases e⟩⟩)
        refine ⟨_, _, .sl H.n a.off L C, h1, h2, fun B hB => by rw [hp, if_neg (by omega)], Nat.le_succ _, Nat.le_refl _, ?_, ⟨hlen.symm, false, ty, cs, by rw [hp, if_pos rfl], by omega, ?_⟩⟩
        · rw [ha]
          exact VR.sl0 (M.set_self _ _ _)
        · rw [hcs, List.drop_append, List.drop_of_length_le (by simp; omega), List.length_map, List.length_take, Array.length_toList, Nat.min_eq_left (by omega), Nat.sub_self, List.drop_zero, List.nil_append, List.take_of_length_le (by rw [ints_length]; omega)]
def CpX (v : AV) : Prop :=
  match v with
  | .sl _ _ l c => l ≤ c
  | _ => True
theorem nc45 : Tryz.prog.cellsOf 45 = 2 := by kernel_rfl
theorem nc3' : Tryz.prog.cellsOf 3 = 1 := by kernel_rfl
theorem cp_ofX {μ : M} {v : AV} {A : Option Addr} {L C : Nat} (h : VR μ v (.slice A L C)) (hLC : L ≤ C) : CpX v := by
  cases h <;> first | exact hLC | trivial
theorem rel_ints {H : Heap} {W : Nat → Prop} : ∀ (xs : List Int), All2 (RelC H W) (xs.map pn) (ints xs)
  | [] => .nil
  | x :: xs => .cons (.int _ _) (rel_ints xs)
theorem rel_of_sl {H : Heap} {x : AV} {xs : List Int} (h : Sl H x xs) (hc : CpX x) : RelC H (fun _ => False) (pIs xs) x := by
  have hr : ∀ {cs : List AV} {o : Nat}, (cs.drop o).take xs.length = ints xs → All2 (RelC H fun _ => False) (xs.map pn) ((cs.drop o).take (xs.map pn).length) := fun h => by
    rw [List.length_map, h]
    exact rel_ints xs
  unfold Sl at h
  split at h
  · subst h; exact .lnil
  · subst h; exact .lsle
  · obtain ⟨rfl, rw, ty, cs, h1, h2, h3⟩ := h
    exact .sl (fun h => h) h1 (by rw [List.length_map]; exact h2) hc (hr h3)
  · obtain ⟨rfl, rfl, rw, ty, cs, h1, h2, h3⟩ := h
    exact .slu (fun h => h) h1 (by rw [List.length_map]; exact h2) ⟨by simp, fun _ => rfl⟩ (hr h3)
  · exact h.elim
theorem imp_intsF {H : Type} {enc : TypeId × Value → H} {W : World} {μ : M} {Hp : Heap} (h : Imp W μ Hp) (hn : Hp.n + 2 < lim) {fuel : Nat} {v : Value} {y : DataW H × List MemPlace}
    (h1 : DataW.trod enc Tryz.prog W 0 (fun _ => true) true fuel 43 [v] = some y) :
    ∃ (μ' : M) (H' : Heap) (b : AV) (xs : List Int), Imp W μ' H' ∧ M.le μ μ' ∧ (∀ B, B < Hp.n → H'.get B = Hp.get B) ∧ Hp.n ≤ H'.n ∧ H'.n ≤ Hp.n + 1 ∧ VR μ' b v ∧ Sl H' b xs ∧ CpX b := by
  have hm : maxLen = 9223372036854775807 := rfl
  rcases open_ints Tryz.underlying43 Tryz.underlying3 nc3' h1 with ⟨hcs, -⟩ | ⟨a, len, cap, zs, hcs, -, hl, hc, hz, -, hcell, hwf⟩
  · obtain rfl : v = .slice none 0 0 := by simpa using hcs
    exact ⟨μ, Hp, .nils, [], h, M.le.refl _, fun _ _ => rfl, Nat.le_refl _, by omega, .nils, rfl, trivial⟩
  · obtain rfl : v = .slice (some a) len cap := by simpa using hcs
    simp only [if_true] at hz
    obtain ⟨μ', H', v', g1, g2, g3, g4, g5, g6, g7⟩ := imp_sliceF (A := some a) (L := len) (C := cap) (Z := zs) h (by omega) hl (by omega) (fun e => by cases e) (fun a' ha' c hcl => by
      cases ha'
      exact hcell c (by omega))
    exact ⟨μ', H', v', _, g1, g2, g3, g4, g5, g6, g7, cp_ofX g6 hl⟩
theorem rows_struct {H : Type} {enc : TypeId × Value → H} {P : Program} {w : World} {base : Nat} {spare : Nat → Bool} {held : Bool} {t : TypeId} {f0 f1 : Field} {fuel : Nat} {cs : List Value} {x : DataW H × List MemPlace} (ht : P.underlying t = some (.struct #[f0, f1])) (h : DataW.trod enc P w base spare held fuel t cs = some x) :
    ∃ y0 y1 n, cs.length = P.cellsOf t ∧ DataW.trod enc P w base spare held n f0.type ((cs.drop f0.offset).take (P.cellsOf f0.type)) = some y0 ∧ DataW.trod enc P w base spare held n f1.type ((cs.drop f1.offset).take (P.cellsOf f1.type)) = some y1 := by
  obtain ⟨xs, n, _, rfl, hl, hlen, hf⟩ := DataW.trod_struct ht h
  match xs, hlen with
  | [y0, y1], _ => exact ⟨y0, y1, n, hl, by simpa using hf 0 f0 rfl, by simpa using hf 1 f1 rfl⟩
theorem rel_up {H H' : Heap} {p : PV} {a : AV} (h : RelC H (fun _ => False) p a) (k : ∀ A, A < H.n → H'.get A = H.get A) : RelC H' (fun _ => False) p a := h.mono (fun A hA _ => k A hA) (fun _ _ h => h)
end Go.PI
