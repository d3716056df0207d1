/- Own work of the verifier, group PiO: PiImp PiShort PiGrow. -/
import Derived.Test.YtgmhmahdmbdngaaGreatDoorPiM
import Derived.Test.YtgmhmahdmbdngaaGreatDoorPiH
set_option linter.all false
set_option linter.deprecated false
/- ARGUMENTS: slices of integers that came in, as blocks that are only read. -/
open Go.Proofs
namespace Go.PI
open Go.ChangeShapes Go.WideShapes Go.ChangeAt Go.RowKit

def NoOwn (H : Heap) : Prop := ∀ A, (H.get A).own = false
structure Imp (W : World) (μ : M) (H : Heap) : Prop where
  hr : HR μ H W
  no : NoOwn H
theorem below_of {μ : M} {H H' : Heap} {w w' : World} {v : AV} {u : Value} (hno : NoOwn H) (h : EffR μ H w v H' u w') : Below w.heap.size w w' := by
  obtain ⟨μ', -, -, hf⟩ := h
  refine ⟨hf.os, hf.tape, hf.output, hf.size, fun k hk => (hf.keep k hk ?_).1⟩
  rintro ⟨A, a, ho, -⟩
  rw [hno A] at ho
  cases ho
theorem imp0 (W : World) : Imp W (fun _ => none) ⟨0, .nil⟩ :=
  ⟨⟨by simp [PI.lim], fun _ _ => rfl, fun A bi hl hm => (by cases hm), fun A B a b _ _ _ hm => (by cases hm)⟩, fun A => by unfold Heap.get; simp [Blk.own]⟩
/-- one block more -/
theorem Imp.push {W : World} {μ : M} {H : Heap} (h : Imp W μ H) (hn : H.n < lim) {bi : BI} {b : Blk} (ho : b.own = false) (hb : b.live = true → bi.c < W.heap.size ∧ BlkR (μ.set H.n bi) W bi b) :
    Imp W (μ.set H.n bi) (H.push b) ∧ M.le μ (μ.set H.n bi) := by
  have hle : M.le μ (μ.set H.n bi) := M.le_set (h.hr.dom _ (Nat.le_refl _))
  have hp := Heap.get_push (H := H) (b := b) hn
  refine ⟨⟨⟨?_, ?_, ?_, ?_⟩, ?_⟩, hle⟩
  · show H.n + 1 ≤ lim
    omega
  · intro A hA
    have hA : H.n + 1 ≤ A := hA
    unfold M.set
    rw [if_neg (by omega)]
    exact h.hr.dom A (by omega)
  · intro A bj hl hm
    rw [hp] at hl ⊢
    by_cases hA : A = H.n
    · subst hA
      rw [if_pos rfl] at hl ⊢
      rw [M.set_self] at hm
      cases hm
      exact hb hl
    · rw [if_neg hA] at hl ⊢
      unfold M.set at hm
      rw [if_neg hA] at hm
      obtain ⟨h1, h2⟩ := h.hr.blk A bj hl hm
      exact ⟨h1, h2.mono hle rfl⟩
  · intro A B a b' hAB hA
    rw [hp] at hA
    by_cases hA' : A = H.n
    · rw [if_pos hA', ho] at hA; cases hA
    · rw [if_neg hA', h.no A] at hA; cases hA
  · intro A
    rw [hp]
    by_cases hA : A = H.n
    · rw [if_pos hA]; exact ho
    · rw [if_neg hA]; exact h.no A

/-- v is a slice of xs; its elements are to be seen if there are few -/
def slen : AV → Option Nat
  | .nils | .sle => some 0
  | .sl _ _ n _ | .slu _ _ n _ => some n
  | _ => none
def Seen (H : Heap) (v : AV) (xs : List Int) : Prop := slen v = some xs.length ∧ (xs.length ≤ 1000 → Sl H v xs)
theorem Seen.mono {H H' : Heap} {v : AV} {xs : List Int} (h : Seen H v xs) (k : ∀ A, A < H.n → H'.get A = H.get A) : Seen H' v xs := ⟨h.1, fun hl => (h.2 hl).mono k⟩

theorem cell_zero {W : World} {a : Addr} {v : Value} (h : W.cell? (a.add 0) = some v) : a = ⟨a.block, a.off, none⟩ := by
  obtain ⟨b, o, s⟩ := a
  cases s with
  | none => rfl
  | some s =>
    unfold World.cell? at h
    simp only [Addr.add, if_true] at h
    split at h
    · simp at h
    · cases h
theorem cell_row {W : World} {b o i : Nat} {v : Value} (h : W.cell? (Addr.add ⟨b, o, none⟩ i) = some v) : ∃ carr ty fz, W.heap[b]? = some (.cells carr ty fz) ∧ carr[o + i]? = some v := by
  have e : Addr.add ⟨b, o, none⟩ i = ⟨b, o + i, none⟩ := by
    unfold Addr.add
    split
    · rename_i h0; subst h0; rfl
    · rfl
  rw [e] at h
  unfold World.cell? at h
  split at h
  · rename_i carr ty fz hc
    exact ⟨carr, ty, fz, hc, by simpa using h⟩
  · cases h

theorem imp_slice {W : World} {μ : M} {H : Heap} (h : Imp W μ H) (hn : H.n < lim) {A : Option Addr} {L C : Nat} {Z : List Int} (hLC : L ≤ C) (hZ : L ≤ Z.length) (h0 : A = none → C = 0)
    (hc : ∀ a, A = some a → ∀ c, c < L → W.cell? (a.add c) = some (.int .i64 (Z.getD c 0))) :
    ∃ μ' H' v', Imp W μ' H' ∧ M.le μ μ' ∧ (∀ B, B < H.n → H'.get B = H.get B) ∧ H.n ≤ H'.n ∧ H'.n ≤ H.n + 1 ∧ VR μ' v' (.slice A L C) ∧ Seen H' v' (Z.take L) := by
  have hlen : (Z.take L).length = L := by simp; omega
  cases A with
  | none =>
    have hC := h0 rfl
    obtain rfl : C = 0 := hC
    obtain rfl : L = 0 := by omega
    exact ⟨μ, H, .nils, h, M.le.refl _, fun _ _ => rfl, Nat.le_refl _, Nat.le_succ _, .nils, rfl, fun _ => rfl⟩
  | some a =>
    by_cases hL : L = 0
    · subst hL
      exact ⟨μ, H, .sle, h, M.le.refl _, fun _ _ => rfl, Nat.le_refl _, Nat.le_succ _, .sle _ _, rfl, fun _ => rfl⟩
    · have ha := cell_zero (hc a rfl 0 (by omega))
      have hc' : ∀ c, c < L → W.cell? (Addr.add ⟨a.block, a.off, none⟩ c) = some (.int .i64 (Z.getD c 0)) := fun c hcl => by rw [← ha]; exact hc a rfl c hcl
      obtain ⟨carr, ty, fz, hb, -⟩ := cell_row (hc' 0 (by omega))
      have hlt : a.block < W.heap.size := by
        rcases Nat.lt_or_ge a.block W.heap.size with h1 | h1
        · exact h1
        · rw [Array.getElem?_eq_none h1] at hb; cases hb
      have hp := fun b => Heap.get_push (H := H) (b := b) hn
      by_cases hbig : L ≤ 1000
      · have hcells : ∀ c, c < L → carr[a.off + c]? = some (.int .i64 (Z.getD c 0)) := fun c hcl => by
          obtain ⟨carr2, ty2, fz2, hb2, hv⟩ := cell_row (hc' c hcl)
          rw [hb] at hb2
          cases hb2
          exact hv
        have hsz : a.off + L ≤ carr.size := by
          have := hcells (L - 1) (by omega)
          have := (Array.getElem?_eq_some_iff.1 this).1
          omega
        obtain ⟨cs, hcs⟩ : ∃ cs, cs = (carr.toList.take a.off).map AV.raw ++ ints (Z.take L) := ⟨_, rfl⟩
        have hcl : cs.length = a.off + L := by rw [hcs, List.length_append, List.length_map, List.length_take, ints_length, hlen, Array.length_toList]; omega
        have hvs : ∀ ν : M, VRs ν cs (carr.toList.take cs.length) := fun ν => by
          rw [hcl, hcs]
          have e : carr.toList.take (a.off + L) = carr.toList.take a.off ++ (carr.toList.drop a.off).take L := by rw [List.take_add]
          rw [e]
          refine All2.append (anys ν _) ?_
          have e2 : (carr.toList.drop a.off).take L = (Z.take L).map (Value.int .i64) := by
            apply List.ext_getElem?
            intro i
            by_cases hi : i < L
            · rw [List.getElem?_take, if_pos hi, List.getElem?_drop, Array.getElem?_toList, hcells i hi, List.getElem?_map, List.getElem?_take, if_pos hi]
              rw [List.getD_eq_getElem?_getD, List.getElem?_eq_getElem (by omega)]
              simp
            · rw [List.getElem?_take, if_neg hi, List.getElem?_map, List.getElem?_take, if_neg hi]; rfl
          rw [e2]
          generalize Z.take L = xs
          induction xs with
          | nil => exact .nil
          | cons x xs ih => exact .cons (.int _ _) ih
        obtain ⟨h1, h2⟩ := h.push hn (bi := ⟨a.block, carr.size⟩) (b := .cells false ty cs) rfl (fun _ => ⟨hlt, carr, fz, hb, rfl, by omega, hvs _, fun e => by cases e⟩)
        refine ⟨_, _, .sl H.n a.off L C, h1, h2, fun B hB => by rw [hp, if_neg (by omega)], Nat.le_succ _, Nat.le_refl _, ?_, by rw [hlen]; rfl, fun _ => ⟨hlen.symm, false, ty, cs, by rw [hp, if_pos rfl], by omega, ?_⟩⟩
        · rw [ha]
          exact .sl (bi := ⟨a.block, carr.size⟩) (M.set_self _ _ _)
        · rw [hcs, List.drop_append, List.drop_of_length_le (by simp; omega), List.length_map, List.length_take, Array.length_toList, Nat.min_eq_left (by omega), Nat.sub_self, List.drop_zero, List.nil_append, List.take_of_length_le (by rw [ints_length]; omega)]
      · obtain ⟨h1, h2⟩ := h.push hn (bi := ⟨a.block, carr.size⟩) (b := .dead) rfl (fun hl => by cases hl)
        refine ⟨_, _, .sl H.n a.off L C, h1, h2, fun B hB => by rw [hp, if_neg (by omega)], Nat.le_succ _, Nat.le_refl _, ?_, by rw [hlen]; rfl, fun hl => absurd hl (by omega)⟩
        rw [ha]
        exact .sl (bi := ⟨a.block, carr.size⟩) (M.set_self _ _ _)

/-- v is a slice of slices -/
def Sl2 (H : Heap) (v : AV) (rows : List (List Int)) : Prop :=
  match v with
  | .nils => rows = []
  | .sle => rows = []
  | .sl b o l _ => l = rows.length ∧ ∃ rw ty cs, H.get b = .cells rw ty cs ∧ o + l ≤ cs.length ∧ All2 (Seen H) ((cs.drop o).take l) rows
  | .slu b o l e => e = 1 ∧ l = rows.length ∧ ∃ rw ty cs, H.get b = .cells rw ty cs ∧ o + l ≤ cs.length ∧ All2 (Seen H) ((cs.drop o).take l) rows
  | _ => False
def Seen2 (H : Heap) (v : AV) (rows : List (List Int)) : Prop := slen v = some rows.length ∧ (rows.length ≤ 1000 → Sl2 H v rows)
theorem Sl2.mono {H H' : Heap} {v : AV} {rows : List (List Int)} (h : Sl2 H v rows) (k : ∀ A, A < H.n → H'.get A = H.get A) : Sl2 H' v rows := by
  have hs : ∀ {vs : List AV} {rs : List (List Int)}, All2 (Seen H) vs rs → All2 (Seen H') vs rs := fun h => All2.mono' (fun _ _ h => h.mono k) h
  unfold Sl2 at *
  split at h <;> try exact h
  · obtain ⟨h1, rw, ty, cs, h2, h3, h4⟩ := h
    exact ⟨h1, rw, ty, cs, by rw [k _ (Heap.lt_of_get (by rw [h2]; simp))]; exact h2, h3, hs h4⟩
  · obtain ⟨h0, h1, rw, ty, cs, h2, h3, h4⟩ := h
    exact ⟨h0, h1, rw, ty, cs, by rw [k _ (Heap.lt_of_get (by rw [h2]; simp))]; exact h2, h3, hs h4⟩
theorem Seen2.mono {H H' : Heap} {v : AV} {rows : List (List Int)} (h : Seen2 H v rows) (k : ∀ A, A < H.n → H'.get A = H.get A) : Seen2 H' v rows := ⟨h.1, fun hl => (h.2 hl).mono k⟩

section
variable {W : World} {A : Nat → Option Addr} {L C : Nat → Nat} {Z : Nat → List Int}
theorem imp_some {μ : M} {H : Heap} (h : Imp W μ H) : ∀ n : Nat, H.n + n < lim →
    (∀ r, r < n → L r ≤ C r ∧ L r ≤ (Z r).length ∧ (A r = none → C r = 0) ∧ ∀ a, A r = some a → ∀ c, c < L r → W.cell? (a.add c) = some (.int .i64 ((Z r).getD c 0))) →
    ∃ μ' H' vs, Imp W μ' H' ∧ M.le μ μ' ∧ (∀ B, B < H.n → H'.get B = H.get B) ∧ H.n ≤ H'.n ∧ H'.n ≤ H.n + n ∧
      VRs μ' vs ((List.range n).map fun r => .slice (A r) (L r) (C r)) ∧ All2 (Seen H') vs ((List.range n).map fun r => (Z r).take (L r))
  | 0, _, _ => ⟨μ, H, [], h, M.le.refl _, fun _ _ => rfl, Nat.le_refl _, Nat.le_refl _, .nil, .nil⟩
  | n + 1, hn, hr => by
    obtain ⟨μ1, H1, vs, h1, h2, h3, h4, h5, h6, h7⟩ := imp_some h n (by omega) (fun r hr' => hr r (by omega))
    obtain ⟨r1, r2, r3, r4⟩ := hr n (by omega)
    obtain ⟨μ2, H2, v, g1, g2, g3, g4, g5, g6, g7⟩ := imp_slice h1 (by omega) r1 r2 r3 r4
    refine ⟨μ2, H2, vs ++ [v], g1, h2.trans g2, fun B hB => (g3 B (by omega)).trans (h3 B hB), by omega, by omega, ?_, ?_⟩
    · rw [List.range_succ, List.map_append]
      exact All2.append (h6.mono g2) (.cons g6 .nil)
    · rw [List.range_succ, List.map_append]
      exact All2.append (All2.mono' (fun _ _ h => h.mono g3) h7) (.cons g7 .nil)
theorem imp_rows {μ : M} {H : Heap} (h : Imp W μ H) {a : Option Addr} {len cap : Nat} (hn : H.n + 1001 < lim) (h0 : a = none → cap = 0) (hlc : len ≤ cap)
    (hr : ∀ b, a = some b → ∀ r, r < len → W.cell? (b.add r) = some (.slice (A r) (L r) (C r)) ∧ L r ≤ C r ∧ L r ≤ (Z r).length ∧ (A r = none → C r = 0) ∧ ∀ a', A r = some a' → ∀ c, c < L r → W.cell? (a'.add c) = some (.int .i64 ((Z r).getD c 0))) :
    ∃ μ' H' v', Imp W μ' H' ∧ M.le μ μ' ∧ (∀ B, B < H.n → H'.get B = H.get B) ∧ H.n ≤ H'.n ∧ H'.n ≤ H.n + 1001 ∧ VR μ' v' (.slice a len cap) ∧ Seen2 H' v' ((List.range len).map fun r => (Z r).take (L r)) := by
  have hlen : ((List.range len).map fun r => (Z r).take (L r)).length = len := by simp
  cases a with
  | none =>
    have hC := h0 rfl
    obtain rfl : cap = 0 := hC
    obtain rfl : len = 0 := by omega
    exact ⟨μ, H, .nils, h, M.le.refl _, fun _ _ => rfl, Nat.le_refl _, by omega, .nils, rfl, fun _ => rfl⟩
  | some a =>
    by_cases hL : len = 0
    · subst hL
      exact ⟨μ, H, .sle, h, M.le.refl _, fun _ _ => rfl, Nat.le_refl _, by omega, .sle _ _, rfl, fun _ => rfl⟩
    · have ha := cell_zero (hr a rfl 0 (by omega)).1
      have hc' : ∀ c, c < len → W.cell? (Addr.add ⟨a.block, a.off, none⟩ c) = some (.slice (A c) (L c) (C c)) := fun c hcl => by rw [← ha]; exact (hr a rfl c hcl).1
      obtain ⟨carr, ty, fz, hb, -⟩ := cell_row (hc' 0 (by omega))
      have hlt : a.block < W.heap.size := by
        rcases Nat.lt_or_ge a.block W.heap.size with h1 | h1
        · exact h1
        · rw [Array.getElem?_eq_none h1] at hb; cases hb
      by_cases hbig : len ≤ 1000
      · have hcells : ∀ c, c < len → carr[a.off + c]? = some (.slice (A c) (L c) (C c)) := fun c hcl => by
          obtain ⟨carr2, ty2, fz2, hb2, hv⟩ := cell_row (hc' c hcl)
          rw [hb] at hb2
          cases hb2
          exact hv
        have hsz : a.off + len ≤ carr.size := by
          have := hcells (len - 1) (by omega)
          have := (Array.getElem?_eq_some_iff.1 this).1
          omega
        obtain ⟨μ1, H1, vs, g1, g2, g3, g4, g5, g6, g7⟩ := imp_some (A := A) (L := L) (C := C) (Z := Z) h len (by omega) (fun r hrl => (hr a rfl r hrl).2)
        have hvl : vs.length = len := by rw [g6.length]; simp
        have hn1 : H1.n < lim := by omega
        have hp := fun b => Heap.get_push (H := H1) (b := b) hn1
        obtain ⟨cs, hcs⟩ : ∃ cs, cs = (carr.toList.take a.off).map AV.raw ++ vs := ⟨_, rfl⟩
        have hcl : cs.length = a.off + len := by rw [hcs, List.length_append, List.length_map, List.length_take, hvl, Array.length_toList]; omega
        have hvs : ∀ ν : M, M.le μ1 ν → VRs ν cs (carr.toList.take cs.length) := fun ν hν => by
          rw [hcl, hcs]
          have e : carr.toList.take (a.off + len) = carr.toList.take a.off ++ (carr.toList.drop a.off).take len := by rw [List.take_add]
          rw [e]
          refine All2.append (anys ν _) ?_
          have e2 : (carr.toList.drop a.off).take len = (List.range len).map fun r => .slice (A r) (L r) (C r) := by
            apply List.ext_getElem?
            intro i
            by_cases hi : i < len
            · rw [List.getElem?_take, if_pos hi, List.getElem?_drop, Array.getElem?_toList, hcells i hi, List.getElem?_map, List.getElem?_range hi]
              rfl
            · rw [List.getElem?_take, if_neg hi, List.getElem?_eq_none (by simp; omega)]
          rw [e2]
          exact g6.mono hν
        obtain ⟨p1, p2⟩ := g1.push hn1 (bi := ⟨a.block, carr.size⟩) (b := .cells false ty cs) rfl (fun _ => ⟨hlt, carr, fz, hb, rfl, by omega, hvs _ (M.le_set (g1.hr.dom _ (Nat.le_refl _))), fun e => by cases e⟩)
        refine ⟨_, _, .sl H1.n a.off len cap, p1, g2.trans p2, fun B hB => by rw [hp, if_neg (by omega)]; exact g3 B hB, by show H.n ≤ H1.n + 1; omega, by show H1.n + 1 ≤ H.n + 1001; omega, ?_, by rw [hlen]; rfl, fun _ => ⟨hlen.symm, false, ty, cs, by rw [hp, if_pos rfl], by omega, ?_⟩⟩
        · rw [ha]
          exact .sl (bi := ⟨a.block, carr.size⟩) (M.set_self _ _ _)
        · rw [hcs, List.drop_append, List.drop_of_length_le (by simp; omega), List.length_map, List.length_take, Array.length_toList, Nat.min_eq_left (show a.off ≤ carr.size by omega), Nat.sub_self, List.drop_zero, List.nil_append, List.take_of_length_le (l := vs) (by omega)]
          exact All2.mono' (fun _ _ (h : Seen H1 _ _) => h.mono fun B hB => by rw [hp, if_neg (by omega)]) g7
      · have hp := fun b => Heap.get_push (H := H) (b := b) (by omega : H.n < lim)
        obtain ⟨h1, h2⟩ := h.push (by omega) (bi := ⟨a.block, carr.size⟩) (b := .dead) rfl (fun hl => by cases hl)
        refine ⟨_, _, .sl H.n a.off len cap, h1, h2, fun B hB => by rw [hp, if_neg (by omega)], Nat.le_succ _, by show H.n + 1 ≤ H.n + 1001; omega, ?_, by rw [hlen]; rfl, fun hl => absurd hl (by omega)⟩
        rw [ha]
        exact .sl (bi := ⟨a.block, carr.size⟩) (M.set_self _ _ _)
end
end Go.PI

open Go.Proofs
namespace Go.PI
open IM
theorem fn146 : ctx.fn 146 = some c146 := by kernel_rfl
theorem fn60 : ctx.fn 60 = some c60 := by kernel_rfl
/-- nothing of what was there has changed -/
structure Grow (H H' : Heap) : Prop where
  n : H.n ≤ H'.n
  m : H'.n ≤ H.n + 100
  get : ∀ A, A < H.n → H'.get A = H.get A
theorem Grow.refl (H : Heap) : Grow H H := ⟨Nat.le_refl _, by omega, fun _ _ => rfl⟩

section
variable {C : Ctx} (hT : C.ty = tget)
include hT
theorem ty59 : C.ty 59 = some t59 := by rw [hT]; rfl
theorem ty61 : C.ty 61 = some t61 := by rw [hT]; rfl
theorem ty156 : C.ty 156 = some t156 := by rw [hT]; rfl
theorem len_any {ρ : Operand → Option AV} {x : Operand} {v : AV} {n : Nat} {t e : TypeId} {i : TI} (ht : C.ty t = some i) (hd : i.desc = .slice e) (hx : ρ x = some v) (h : slen v = some n) :
    pureE C ρ (.call { callee := .builtin .len, args := #[x], argTypes := #[t] }) = some (iv n) := by
  obtain ⟨d, a, b, c⟩ := i
  simp only at hd
  subst hd
  simp only [pureE, opds, hx, builtinP, ht]
  cases v <;> simp only [slen] at h <;> first | (cases h; done) | (cases h; rfl)
theorem idx_any {ρ : Operand → Option AV} {x i : Operand} {v : AV} {n k : Nat} {m : Int} {t e : TypeId} {ti ei : TI} (ht : C.ty t = some ti) (hd : ti.desc = .slice e) (he : C.ty e = some ei) (hx : ρ x = some v) (hi : ρ i = some (iv m)) (h : slen v = some n) (hm : m = k) (hk : k < n) :
    ∃ p, pureE C ρ (.indexAddr t x i) = some p ∧ p = (match v with
      | .sl b o _ _ => .ptr b (o + k * ei.size)
      | .slu b o _ _ => .ptr b (o + k * ei.size)
      | _ => .nilp) := by
  subst hm
  obtain ⟨d, a, b, c⟩ := ti
  simp only at hd
  subst hd
  have h0 : (0 : Int) ≤ (k : Int) ∧ (k : Int) < (n : Int) := by omega
  simp only [pureE, hx, hi, ht]
  cases v <;> simp only [slen] at h <;> first | (cases h; done) | skip
  all_goals (cases h)
  all_goals first
    | (exfalso; omega)
    | exact ⟨_, by simp only [he, h0, and_self, if_true, Int.toNat_natCast], rfl⟩
/-- an element of a slice of slices -/
theorem elem_sl2 {ρ : Operand → Option AV} {x i : Operand} {H : Heap} {v : AV} {rows : List (List Int)} {k : Nat} {m : Int} (hx : ρ x = some v) (hi : ρ i = some (iv m)) (h : Sl2 H v rows) (hm : m = k) (hk : k < rows.length) :
    ∃ p u r, pureE C ρ (.indexAddr 59 x i) = some p ∧ loadE C 22 p H = some u ∧ rows[k]? = some r ∧ Seen H u r := by
  have hlen : slen v = some rows.length := by
    unfold Sl2 at h
    split at h
    · subst h; rfl
    · subst h; rfl
    · simp [slen, h.1]
    · simp [slen, h.2.1]
    · exact h.elim
  obtain ⟨p, h1, h2⟩ := idx_any hT (ei := t22) (e := 22) (ty59 hT) rfl (ty22 hT) hx hi hlen hm hk
  have key : ∀ {b o : Nat} {rw : Bool} {ty : TypeId} {cs : List AV}, H.get b = .cells rw ty cs → All2 (Seen H) ((cs.drop o).take rows.length) rows → ∃ u r, loadE C 22 (.ptr b (o + k)) H = some u ∧ rows[k]? = some r ∧ Seen H u r := fun hg ha => by
    obtain ⟨r, hr⟩ : ∃ r, rows[k]? = some r := ⟨rows[k], List.getElem?_eq_getElem hk⟩
    have hul : ((List.drop _ _).take rows.length).length = rows.length := ha.length
    obtain ⟨u, hu⟩ : ∃ u, ((List.drop _ _).take rows.length)[k]? = some u := ⟨_, List.getElem?_eq_getElem (by rw [hul]; exact hk)⟩
    obtain ⟨r', hr', hs⟩ := ha.get hu
    rw [List.getElem?_take, if_pos hk, List.getElem?_drop] at hu
    exact ⟨u, r', by simp only [loadE, ty22 hT, hg, partE, t22]; exact hu, hr', hs⟩
  have hs : t22.size = 1 := rfl
  unfold Sl2 at h
  split at h
  · subst h; simp at hk
  · subst h; simp at hk
  · obtain ⟨h3, rw, ty, cs, h4, h5, h6⟩ := h
    subst h3
    obtain ⟨u, r, g1, g2, g3⟩ := key h4 h6
    refine ⟨p, u, r, h1, ?_, g2, g3⟩
    rw [h2, hs, Nat.mul_one]; exact g1
  · obtain ⟨-, h3, rw, ty, cs, h4, h5, h6⟩ := h
    subst h3
    obtain ⟨u, r, g1, g2, g3⟩ := key h4 h6
    refine ⟨p, u, r, h1, ?_, g2, g3⟩
    rw [h2, hs, Nat.mul_one]; exact g1
  · exact h.elim
end

abbrev boxN (H : Heap) (c d : AV) : Heap := H.push (.cells true 61 [c, d])
set_option maxRecDepth 10000
set_option maxHeartbeats 1000000
variable (S : FuncId → Option (List AV → Heap → Option (AV × Heap)))
theorem short_run (h146 : S 146 = none) {H : Heap} {c d : AV} {n : Int} {rows : List (List Int)} {xs : List Int} (hn : H.n + 2 < lim) (hc : Seen2 H c rows) (hd : Seen H d xs) (hdl : xs.length ≤ 9223372036854775807) (hrl : rows.length ≤ 9223372036854775807) :
    Cl (ctx.plus S) 146 [.agg [c, d], iv n] H fun r H' => (∃ β, r = .bool β) ∧ Grow H H' ∧ H'.n = H.n + 1 := by
  refine cl_of h146 fn146 ?_
  have hT : (ctx.plus S).ty = tget := rfl
  refine ⟨by omega, ?_⟩
  have hp : ∀ A, (boxN H c d).get A = if A = H.n then .cells true 61 [c, d] else H.get A := Heap.get_push (by omega)
  have hpn : (boxN H c d).n = H.n + 1 := rfl
  have hk1 : ∀ A, A < H.n → (boxN H c d).get A = H.get A := fun A hA => by rw [hp, if_neg (by omega)]
  have hb1 : (boxN H c d).get H.n = .cells true 61 [c, d] := by rw [hp, if_pos rfl]
  have hG : Grow H (boxN H c d) := ⟨by omega, by omega, hk1⟩
  have hl0 : loadE (ctx.plus S) 59 (.ptr H.n 0) (boxN H c d) = some c := by simp only [loadE, ty59 hT, hb1, partE, t59]; rfl
  have hl1 : loadE (ctx.plus S) 22 (.ptr H.n 1) (boxN H c d) = some d := by simp only [loadE, ty22 hT, hb1, partE, t22]; rfl
  have hc1 : Seen2 (boxN H c d) c rows := hc.mono hk1
  refine ⟨.ptr H.n 0, rfl, c, hl0, ?_⟩
  refine ⟨_, len_any hT (ty59 hT) rfl (v := c) rfl hc.1, ?_⟩
  have fin : ∀ β : Bool, (∃ β', AV.bool β = .bool β') ∧ Grow H (boxN H c d) ∧ (boxN H c d).n = H.n + 1 := fun β => ⟨⟨β, rfl⟩, hG, hpn⟩
  refine ⟨fun h6 => ?_, fun h6 => ?_⟩
  · exact fin false
  refine ⟨.ptr H.n 1, rfl, d, hl1, ?_⟩
  refine ⟨_, len_any hT (ty22 hT) rfl (v := d) rfl hd.1, ?_⟩
  refine ⟨fun h7 => ?_, fun h7 => ?_⟩
  · exact fin false
  refine ⟨fun m s => ∃ (i : Nat) (k : Int) (j0 j3 j4 j6 j7 j8 j9 j10 j11 j12 j13 j14 j15 j16 j17 j18 j19 j20 j21 j22 j23 j24 j25 j26 j27 j28 j29 j30 j31 : AV),
    s = ⟨[j0, iv n, .ptr H.n 0, j3, j4, iv k, j6, j7, j8, j9, j10, j11, j12, j13, j14, j15, j16, j17, j18, j19, j20, j21, j22, j23, j24, j25, j26, j27, j28, j29, j30, j31], boxN H c d, []⟩ ∧ m = rows.length - i ∧ k = i ∧ i ≤ rows.length, ⟨rows.length, ?_⟩, ?_⟩
  · exact ⟨0, _, _, _, _, _, _, _, _, _, _, _, _, _, _, _, _, _, _, _, _, _, _, _, _, _, _, _, _, _, _, rfl, rfl, rfl, Nat.zero_le _⟩
  · rintro m s ⟨i, k, j0, j3, j4, j6, j7, j8, j9, j10, j11, j12, j13, j14, j15, j16, j17, j18, j19, j20, j21, j22, j23, j24, j25, j26, j27, j28, j29, j30, j31, rfl, hm, rfl, hi⟩
    refine ⟨.ptr H.n 0, rfl, c, hl0, ?_⟩
    refine ⟨_, len_any hT (ty59 hT) rfl (v := c) rfl hc.1, ?_⟩
    refine ⟨fun hlt => ?_, fun hge => ?_⟩
    · refine ⟨.ptr H.n 0, rfl, c, hl0, ?_⟩
      obtain ⟨p, u, r, g1, g2, g3, g4⟩ := elem_sl2 hT (C := ctx.plus S) (ρ := fun o => match o with | .tmp 25 => some c | _ => some (iv i)) (x := .tmp 25) (i := .tmp 26) (k := i) rfl rfl (hc1.2 (by omega)) rfl (by omega)
      refine ⟨p, g1, u, g2, ?_⟩
      refine ⟨_, len_any hT (ty22 hT) rfl (v := u) rfl g4.1, ?_⟩
      refine ⟨fun h8 => ?_, fun h8 => ?_⟩
      · exact fin false
      · refine ⟨⟨by omega, by omega⟩, ?_⟩
        exact ⟨rows.length - (i + 1), by omega, i + 1, _, _, _, _, _, _, _, _, _, _, _, _, _, _, _, _, _, _, _, _, _, _, _, _, _, _, _, _, _, _, rfl, rfl, rfl, by omega⟩
    · exact fin true

theorem small_run (h146 : S 146 = none) (h60 : S 60 = none) {H : Heap} {b : Nat} {rw : Bool} {ty : TypeId} {c1 d1 c2 d2 : AV} {r1 r2 : List (List Int)} {x1 x2 : List Int} (hn : H.n + 10 < lim) (hb : H.get b = .cells rw ty [c1, d1, c2, d2])
    (hc1 : Seen2 H c1 r1) (hd1 : Seen H d1 x1) (hc2 : Seen2 H c2 r2) (hd2 : Seen H d2 x2) (hx1 : x1.length ≤ 9223372036854775807) (hr1 : r1.length ≤ 9223372036854775807) (hx2 : x2.length ≤ 9223372036854775807) (hr2 : r2.length ≤ 9223372036854775807) :
    Cl (ctx.plus S) 60 [.sl b 0 2 2] H fun r H' => (∃ β, r = .bool β) ∧ Grow H H' := by
  refine cl_of h60 fn60 ?_
  have hT : (ctx.plus S).ty = tget := rfl
  have hbn : b < H.n := Heap.lt_of_get (by rw [hb]; simp)
  have fin : ∀ (β : Bool) (H' : Heap), Grow H H' → (∃ β', AV.bool β = .bool β') ∧ Grow H H' := fun β H' hG => ⟨⟨β, rfl⟩, hG⟩
  refine ⟨fun m s => ∃ (i : Nat) (k : Int) (H' : Heap) (j1 j2 j4 j5 j6 j7 j8 j9 j10 j11 j12 j13 j14 j15 : AV),
    s = ⟨[.sl b 0 2 2, j1, j2, iv k, j4, j5, j6, j7, j8, j9, j10, j11, j12, j13, j14, j15], H', []⟩ ∧ m = 2 - i ∧ k = i ∧ i ≤ 2 ∧ Grow H H' ∧ H'.n ≤ H.n + i, ⟨2, ?_⟩, ?_⟩
  · exact ⟨0, _, H, _, _, _, _, _, _, _, _, _, _, _, _, _, _, rfl, rfl, rfl, Nat.zero_le _, Grow.refl H, Nat.le_refl _⟩
  · rintro m s ⟨i, k, H', j1, j2, j4, j5, j6, j7, j8, j9, j10, j11, j12, j13, j14, j15, rfl, hm, rfl, hi, hG, hn'⟩
    have hb' : H'.get b = .cells rw ty [c1, d1, c2, d2] := by rw [hG.get b hbn]; exact hb
    refine ⟨_, len_any hT (ty156 hT) rfl (v := .sl b 0 2 2) rfl rfl, ?_⟩
    refine ⟨fun hlt => ?_, fun hge => ?_⟩
    · have step : ∀ (c d : AV) (rr : List (List Int)) (xx : List Int), Seen2 H c rr → Seen H d xx → xx.length ≤ 9223372036854775807 → rr.length ≤ 9223372036854775807 →
        loadE (ctx.plus S) 61 (.ptr b (0 + i * t61.size)) H' = some (.agg [c, d]) → ∃ v, loadE (ctx.plus S) 61 (.ptr b (0 + i * t61.size)) H' = some v ∧ Cl (ctx.plus S) 146 [v, iv 2] H' fun r H2 => (∃ β, r = .bool β) ∧ Grow H' H2 ∧ H2.n = H'.n + 1 := fun c d rr xx g1 g2 g3 g4 g5 =>
          ⟨_, g5, short_run S h146 (by omega) (g1.mono hG.get) (g2.mono hG.get) g3 g4⟩
      have hload : ∃ v, loadE (ctx.plus S) 61 (.ptr b (0 + i * t61.size)) H' = some v ∧ Cl (ctx.plus S) 146 [v, iv 2] H' fun r H2 => (∃ β, r = .bool β) ∧ Grow H' H2 ∧ H2.n = H'.n + 1 := by
        have hi2 : i = 0 ∨ i = 1 := by omega
        rcases hi2 with rfl | rfl
        · exact step c1 d1 r1 x1 hc1 hd1 hx1 hr1 (by simp only [loadE, ty61 hT, hb', partE, t61]; rfl)
        · exact step c2 d2 r2 x2 hc2 hd2 hx2 hr2 (by simp only [loadE, ty61 hT, hb', partE, t61]; rfl)
      obtain ⟨v, hv1, hv2⟩ := hload
      obtain ⟨p, hp1, hp2⟩ := idx_any hT (C := ctx.plus S) (ρ := fun o => match o with | .tmp 10 => some (.sl b 0 2 2) | _ => some (iv i)) (x := .tmp 10) (i := .tmp 11) (t := 156) (e := 61) (ei := t61) (n := 2) (k := i) (ty156 hT) rfl (ty61 hT) rfl rfl rfl rfl (by omega)
      refine ⟨p, hp1, ?_⟩
      refine ⟨v, by rw [hp2]; exact hv1, ?_⟩
      refine hv2.mono ?_
      rintro _ H2 ⟨⟨β, rfl⟩, hG2, hn2⟩
      have hG3 : Grow H H2 := ⟨by have := hG.n; have := hG2.n; omega, by omega, fun A hA => (hG2.get A (by have := hG.n; omega)).trans (hG.get A hA)⟩
      cases β
      · exact fin false H2 hG3
      · refine ⟨⟨by omega, by omega⟩, ?_⟩
        exact ⟨2 - (i + 1), by omega, i + 1, _, H2, _, _, _, _, _, _, _, _, _, _, _, _, _, _, rfl, rfl, rfl, by omega, hG3, by omega⟩
    · exact fin true H' hG
end Go.PI

/- A REGION WHOSE ORDER IS OPEN, in which memory only grows but for the last operation. -/
namespace Go.PI
def ldsP (C : Ctx) (ops : List Oper) (H0 : Heap) : List Oper → List (List AV × Heap) → Prop
  | o :: os, (T, _) :: tr => (match o.op with
    | .load t x => (match Region.wanted o (ayielded ops T) with
      | true => ∃ b off v, opd T x = some (.ptr b off) ∧ b < H0.n ∧ loadE C t (.ptr b off) H0 = some v ∧ v.same v = true
      | false => True)
    | _ => True) ∧ ldsP C ops H0 os tr
  | _, _ => True
/-- all but the last state have what there was -/
def grP (H0 : Heap) : List (List AV × Heap) → Prop
  | [] => True
  | [_] => True
  | x :: y :: r => (∀ A, A < H0.n → x.2.get A = H0.get A) ∧ grP H0 (y :: r)
def mnP : List (List AV × Heap) → Prop
  | [] => True
  | [_] => True
  | x :: y :: r => x.2.n ≤ y.2.n ∧ mnP (y :: r)
def isLoad (o : Oper) : Bool :=
  match o.op with
  | .load _ _ => true
  | _ => false
/-- no load may come up behind the last operation -/
def lastOk (C : Ctx) (ops : List Oper) (pre : List Nat) (m : Nat) : List Oper → Nat → Bool
  | [], _ => true
  | o :: os, i => (!isLoad o || !(isBd C ops m && mayAt C ops pre i m ops 0)) && lastOk C ops pre m os (i + 1)
def noAlloc (C : Ctx) : List Oper → Bool
  | [] => true
  | o :: os => (match kindOf C o.op with | .alloc => false | _ => true) && noAlloc C os
theorem load_get {C : Ctx} {t : TypeId} {b o : Nat} {H H' : Heap} (h : H'.get b = H.get b) : loadE C t (.ptr b o) H' = loadE C t (.ptr b o) H := by
  cases ht : C.ty t with
  | none => simp only [loadE, ht]
  | some i => simp only [loadE, ht, h]
theorem mono_of : ∀ {tr : List (List AV × Heap)}, mnP tr → monoOk tr = true
  | [], _ => rfl
  | [_], _ => rfl
  | (_, H) :: (T, H') :: r, h => by
    have := mono_of (tr := (T, H') :: r) h.2
    simp only [monoOk, this, Bool.and_true, decide_eq_true_eq]
    exact h.1
theorem allocs_of {C : Ctx} {ops : List Oper} {pre : List Nat} {all : List (List AV × Heap)} : ∀ (os : List Oper) (tr : List (List AV × Heap)) (i : Nat), noAlloc C os = true → allocsOk C ops pre all os tr i = true
  | [], tr, _, _ => by cases tr <;> rfl
  | o :: os, [], _, _ => rfl
  | o :: os, (T, H) :: tr, i, h => by
    simp only [noAlloc, Bool.and_eq_true] at h
    simp only [allocsOk]
    rw [allocs_of os tr (i + 1) h.2, Bool.and_true]
    have h1 := h.1
    cases hk : kindOf C o.op <;> simp only [hk] at h1 ⊢
    cases h1
theorem loadAts_of {C : Ctx} {ops : List Oper} {pre : List Nat} {i : Nat} {t : TypeId} {b off : Nat} {v : AV} {H0 : Heap} {m : Nat} (hb : b < H0.n) (hl : loadE C t (.ptr b off) H0 = some v) (hs : v.same v = true) (hlast : (isBd C ops m && mayAt C ops pre i m ops 0) = false) :
    ∀ (tr : List (List AV × Heap)) (p : Nat), grP H0 tr → p + tr.length = m + 1 → loadAts C ops pre i t (.ptr b off) v tr p = true
  | [], _, _, _ => rfl
  | [(T, H)], p, _, hp => by
    have : p = m := by simpa using hp
    subst this
    simp only [loadAts, hlast, Bool.not_false, Bool.true_or, Bool.true_and]
  | (T, H) :: y :: r, p, hg, hp => by
    simp only [loadAts]
    have h2 := loadAts_of hb hl hs hlast (y :: r) (p + 1) hg.2 (by simp at hp ⊢; omega)
    rw [load_get (hg.1 b hb), hl]
    simp only [hs, Bool.or_true, Bool.true_and]
    exact h2
theorem loads_of {C : Ctx} {ops : List Oper} {pre : List Nat} {all : List (List AV × Heap)} {H0 : Heap} {m : Nat} (hall : grP H0 all) (hlen : all.length = m + 1) : ∀ (os : List Oper) (tr : List (List AV × Heap)) (i : Nat), ldsP C ops H0 os tr → grP H0 tr → os.length < tr.length → lastOk C ops pre m os i = true → loadsOk C ops pre all os tr i = true
  | [], tr, _, _, _, _, _ => by cases tr <;> rfl
  | o :: os, [], _, _, _, _, _ => rfl
  | o :: os, [(T, H)], _, _, _, h, _ => by simp at h
  | o :: os, (T, H) :: y :: tr, i, h, hg, hl, hlast => by
    simp only [lastOk, Bool.and_eq_true] at hlast
    simp only [loadsOk]
    rw [loads_of hall hlen os (y :: tr) (i + 1) h.2 hg.2 (by simp at hl ⊢; omega) hlast.2, Bool.and_true]
    have h1 := h.1
    cases ho : o.op <;> simp only [ho] at h1 ⊢
    rename_i t x
    cases hw : Region.wanted o (ayielded ops T) with
    | false => simp
    | true =>
      simp only [hw] at h1
      obtain ⟨b, off, v, e1, e2, e3, e4⟩ := h1
      simp only [if_true, e1]
      rw [load_get (hg.1 b e2), e3]
      have hl1 : (isBd C ops m && mayAt C ops pre i m ops 0) = false := by
        have := hlast.1
        simp only [isLoad, ho, Bool.not_true, Bool.false_or, Bool.not_eq_true'] at this
        exact this
      exact loadAts_of e2 e3 e4 hl1 all 0 hall (by omega)
/-- what is static of it -/
def growS (C : Ctx) (ops : List Oper) : Bool := orderOk C ops (preList ops []) ops 0 && lastOk C ops (preList ops []) ops.length ops 0 && noAlloc C ops
theorem draw_of {C : Ctx} {ops : List Oper} {tr : List (List AV × Heap)} (H0 : Heap) (hs : growS C ops = true) (hlen : tr.length = ops.length + 1) (hl : ldsP C ops H0 ops tr) (hg : grP H0 tr) (hm : mnP tr) : drawOk C ops tr = true := by
  simp only [growS, Bool.and_eq_true] at hs
  unfold drawOk
  simp only [hs.1.1, loads_of hg hlen ops tr 0 hl hg (by omega) hs.1.2, allocs_of ops tr 0 hs.2, mono_of hm, Bool.and_self]
end Go.PI

