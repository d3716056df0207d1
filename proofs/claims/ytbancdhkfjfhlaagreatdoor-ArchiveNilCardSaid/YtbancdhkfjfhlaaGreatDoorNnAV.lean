/- Own work of the verifier: PiImp PiAny PvYld. -/
import Derived.Test.YtbancdhkfjfhlaaGreatDoorNnAU
import Derived.Test.YtbancdhkfjfhlaaGreatDoorNnAL
import Derived.Deep.Slices
import Derived.ChangeArms
set_option linter.all false
set_option exponentiation.threshold 3000
set_option linter.deprecated false
/- ARGUMENTS: slices of integers that came in, as blocks that are only read. -/
namespace Go.PI
open Go.ChangeShapes Go.WideShapes Go.ChangeAt Go.RowKit
def NoOwn (H : Heap) : Prop := ∀ A, (H.get A).own = false
structure Imp (W : World) (μ : M) (H : Heap) : Prop where
  hr : HR μ H W
  no : NoOwn H
theorem below_of {μ : M} {H H' : Heap} {w w' : World} {v : AV} {u : Value} (hno : NoOwn H) (h : EffR μ H w v H' u w') : Below w.heap.size w w' := by
  obtain ⟨μ', -, -, hf⟩ := h
  refine ⟨hf.os, hf.tape, hf.output, hf.size, fun k hk => (hf.keep k hk ?_).1⟩
  rintro ⟨A, a, ho, -⟩
  rw [hno A] at ho
  cases ho
theorem imp0 (W : World) : Imp W (fun _ => none) ⟨0, .nil⟩ :=
  ⟨⟨by simp [PI.lim], fun _ _ => rfl, fun A bi hl hm => (by cases hm), fun A B a b _ _ _ hm => (by cases hm)⟩, fun A => by unfold Heap.get; simp [Blk.own]⟩
theorem Imp.push {W : World} {μ : M} {H : Heap} (h : Imp W μ H) (hn : H.n < lim) {bi : BI} {b : Blk} (ho : b.own = false) (hb : b.live = true → bi.c < W.heap.size ∧ BlkR (μ.set H.n bi) W bi b) :
    Imp W (μ.set H.n bi) (H.push b) ∧ M.le μ (μ.set H.n bi) := by
  have hle : M.le μ (μ.set H.n bi) := M.le_set (h.hr.dom _ (Nat.le_refl _))
  have hp := Heap.get_push (H := H) (b := b) hn
  refine ⟨⟨⟨?_, ?_, ?_, ?_⟩, ?_⟩, hle⟩
  · show H.n + 1 ≤ lim
    omega
  · intro A hA
    have hA : H.n + 1 ≤ A := hA
    unfold M.set
    rw [if_neg (by omega)]
    exact h.hr.dom A (by omega)
  · intro A bj hl hm
    rw [hp] at hl ⊢
    by_cases hA : A = H.n
    · subst hA
      rw [if_pos rfl] at hl ⊢
      rw [M.set_self] at hm
      cases hm
      exact hb hl
    · rw [if_neg hA] at hl ⊢
      unfold M.set at hm
      rw [if_neg hA] at hm
      obtain ⟨h1, h2⟩ := h.hr.blk A bj hl hm
      exact ⟨h1, h2.mono hle rfl⟩
  · intro A B a b' hAB hA
    rw [hp] at hA
    by_cases hA' : A = H.n
    · rw [if_pos hA', ho] at hA; cases hA
    · rw [if_neg hA', h.no A] at hA; cases hA
  · intro A
    rw [hp]
    by_cases hA : A = H.n
    · rw [if_pos hA]; exact ho
    · rw [if_neg hA]; exact h.no A
def slen : AV → Option Nat
  | .nils | .sle => some 0
  | .sl _ _ n _ | .slu _ _ n _ => some n
  | _ => none
def Seen (H : Heap) (v : AV) (xs : List Int) : Prop := slen v = some xs.length ∧ (xs.length ≤ 1000 → Sl H v xs)
theorem Seen.mono {H H' : Heap} {v : AV} {xs : List Int} (h : Seen H v xs) (k : ∀ A, A < H.n → H'.get A = H.get A) : Seen H' v xs := ⟨h.1, fun hl => (h.2 hl).mono k⟩
theorem cell_zero {W : World} {a : Addr} {v : Value} (h : W.cell? (a.add 0) = some v) : a = ⟨a.block, a.off, none⟩ := by
  obtain ⟨b, o, s⟩ := a
  cases s with
  | none => rfl
  | some s =>
    unfold World.cell? at h
    simp only [Addr.add, if_true] at h
    split at h
    · simp at h
    · cases h
theorem cell_row {W : World} {b o i : Nat} {v : Value} (h : W.cell? (Addr.add ⟨b, o, none⟩ i) = some v) : ∃ carr ty fz, W.heap[b]? = some (.cells carr ty fz) ∧ carr[o + i]? = some v := by
  have e : Addr.add ⟨b, o, none⟩ i = ⟨b, o + i, none⟩ := by
    unfold Addr.add
    split
    · rename_i h0; subst h0; rfl
    · rfl
  rw [e] at h
  unfold World.cell? at h
  split at h
  · rename_i carr ty fz hc
    exact ⟨carr, ty, fz, hc, by simpa using h⟩
  · cases h
end Go.PI
/- ARGUMENTS OF ANY SHAPE: numbers, truth values, texts, slices, structs. -/
namespace Go.PI
open Go.ChangeShapes Go.WideShapes Go.ChangeAt Go.RowKit Go.Deep
set_option maxRecDepth 100000
inductive Sh where
  | int (k : IntKind)
  | bool
  | str
  | sl (e : Sh)
  | st (fs : List Sh)
mutual
def Sh.nc : Sh → Nat
  | .st fs => Sh.ncs fs
  | .int _ => 1
  | .bool => 1
  | .str => 1
  | .sl _ => 1
def Sh.ncs : List Sh → Nat
  | [] => 0
  | f :: fs => f.nc + Sh.ncs fs
end
mutual
def Sh.cost : Sh → Nat
  | .sl e => e.cost * 100 + 1
  | .st fs => Sh.costs fs
  | .int _ => 0
  | .bool => 0
  | .str => 0
def Sh.costs : List Sh → Nat
  | [] => 0
  | f :: fs => f.cost + Sh.costs fs
end
mutual
def Sh.is (P : Program) : Sh → TypeId → Bool
  | .int k, t => match P.underlying t with | some (.int k') => decide (k' = k) | _ => false
  | .bool, t => match P.underlying t with | some .bool => true | _ => false
  | .str, t => match P.underlying t with | some .string => true | _ => false
  | .sl e, t => match P.underlying t with | some (.slice te) => decide (0 < e.nc) && decide (P.cellsOf te = e.nc) && e.is P te | _ => false
  | .st fs, t => match P.underlying t with | some (.struct gs) => decide (P.cellsOf t = Sh.ncs fs) && Sh.iss P fs gs.toList 0 | _ => false
def Sh.iss (P : Program) : List Sh → List Field → Nat → Bool
  | [], gs, _ => gs.isEmpty
  | f :: fs, gs, o => match gs with | [] => false | g :: gs => decide (g.offset = o) && decide (P.cellsOf g.type = f.nc) && f.is P g.type && Sh.iss P fs gs (o + f.nc)
end
mutual
def Sh.Has : Sh → List PV → Prop
  | .int k, ps => ∃ n, (Lit.int k n).wf = true ∧ ps = [.int k n]
  | .bool, ps => ∃ b, ps = [.bool b]
  | .str, ps => ∃ s : ByteArray, s.size ≤ maxLen ∧ ps = [.str s]
  | .sl e, ps => ∃ (n : Nat) (cs : List PV), ps = [.lst n cs] ∧ n ≤ maxLen ∧ ((e.cost = 0 ∨ n ≤ 100) → ∃ css : List (List PV), css.length = n ∧ cs = css.flatten ∧ ∀ c, c ∈ css → e.Has c)
  | .st fs, ps => Sh.HasL fs ps
def Sh.HasL : List Sh → List PV → Prop
  | [], ps => ps = []
  | f :: fs, ps => ∃ a b, ps = a ++ b ∧ f.Has a ∧ Sh.HasL fs b
end
mutual
theorem Sh.Has.len : ∀ (s : Sh) {ps : List PV}, s.Has ps → ps.length = s.nc
  | .int _, _, ⟨_, _, e⟩ => by rw [e]; rfl
  | .bool, _, ⟨_, e⟩ => by rw [e]; rfl
  | .str, _, ⟨_, _, e⟩ => by rw [e]; rfl
  | .sl _, _, ⟨_, _, e, _⟩ => by rw [e]; rfl
  | .st fs, _, h => Sh.HasL.len fs h
theorem Sh.HasL.len : ∀ (fs : List Sh) {ps : List PV}, Sh.HasL fs ps → ps.length = Sh.ncs fs
  | [], _, h => by
    have h : _ = [] := h
    rw [h]; rfl
  | f :: fs, _, ⟨a, b, e, h1, h2⟩ => by rw [e, List.length_append, Sh.Has.len f h1, Sh.HasL.len fs h2]; rfl
end
def Into (W : World) (μ : M) (H : Heap) (c : Nat) (vs : List Value) (Q : List PV → Prop) : Prop :=
  ∃ (μ' : M) (H' : Heap) (as : List AV) (ps : List PV), Imp W μ' H' ∧ M.le μ μ' ∧ (∀ B, B < H.n → H'.get B = H.get B) ∧ H.n ≤ H'.n ∧ H'.n ≤ H.n + c ∧ VRs μ' as vs ∧ All2 (RelC H' fun _ => False) ps as ∧ Q ps
theorem rels_up {H H' : Heap} {ps : List PV} {as : List AV} (h : All2 (RelC H fun _ => False) ps as) (k : ∀ A, A < H.n → H'.get A = H.get A) : All2 (RelC H' fun _ => False) ps as :=
  All2.mono' (fun _ _ h => h.mono (fun A hA _ => k A hA) (fun _ _ h => h)) h
theorem Into.cons {W : World} {μ : M} {H : Heap} {c d : Nat} {v1 v2 : List Value} {Q1 Q2 : List PV → Prop} (h : Into W μ H c v1 Q1) (k : ∀ μ' H', Imp W μ' H' → H'.n ≤ H.n + c → Into W μ' H' d v2 Q2) :
    Into W μ H (c + d) (v1 ++ v2) fun ps => ∃ a b, ps = a ++ b ∧ Q1 a ∧ Q2 b := by
  obtain ⟨μ1, H1, a1, p1, i1, l1, g1, n1, m1, w1, r1, q1⟩ := h
  obtain ⟨μ2, H2, a2, p2, i2, l2, g2, n2, m2, w2, r2, q2⟩ := k μ1 H1 i1 m1
  exact ⟨μ2, H2, a1 ++ a2, p1 ++ p2, i2, l1.trans l2, fun B hB => by rw [g2 B (by omega), g1 B hB], by omega, by omega, (w1.mono l2).append w2, (rels_up r1 g2).append r2, _, _, rfl, q1, q2⟩
theorem Into.leaf {W : World} {μ : M} {H : Heap} (h : Imp W μ H) {a : AV} {v : Value} {p : PV} {Q : List PV → Prop} (hv : VR μ a v) (hr : RelC H (fun _ => False) p a) (hq : Q [p]) : Into W μ H 0 [v] Q :=
  ⟨μ, H, [a], [p], h, M.le.refl _, fun _ _ => rfl, Nat.le_refl _, Nat.le_refl _, .cons hv .nil, .cons hr .nil, hq⟩
theorem chunks {α : Type} (L : List α) (k : Nat) : ∀ n, n * k ≤ L.length → ((List.range n).map fun i => (L.drop (i * k)).take k).flatten = L.take (n * k) := by
  intro n
  induction n with
  | zero => intro _; simp
  | succ n ih =>
    intro h
    rw [Nat.succ_mul] at h
    rw [List.range_succ, List.map_append, List.flatten_append, ih (by omega)]
    simp only [List.map_cons, List.map_nil, List.flatten_cons, List.flatten_nil, List.append_nil]
    rw [Nat.succ_mul, List.take_add]
section
variable {H : Type} {enc : TypeId × Value → H} {P : Program} {W : World}
theorem cells_row {a : Addr} {n : Nat} {cs : List Value} (h : W.cells? 0 a n = some cs) (hn : 0 < n) :
    a = ⟨a.block, a.off, none⟩ ∧ ∃ carr ty fz, W.heap[a.block]? = some (.cells carr ty fz) ∧ cs = (carr.toList.drop a.off).take n ∧ a.off + n ≤ carr.size := by
  obtain ⟨-, hl, hc⟩ := World.cells?_some h
  have hs : ∀ i, i < n → ∃ v, cs[i]? = some v := fun i hi => ⟨_, List.getElem?_eq_getElem (by omega)⟩
  obtain ⟨v0, hv0⟩ := hs 0 hn
  have h0 := hc 0 hn
  rw [hv0] at h0
  have ha := cell_zero h0
  refine ⟨ha, ?_⟩
  rw [ha] at h0
  obtain ⟨carr, ty, fz, hb, -⟩ := cell_row h0
  have hg : ∀ i, i < n → carr[a.off + i]? = cs[i]? := fun i hi => by
    obtain ⟨v, hv⟩ := hs i hi
    have := hc i hi
    rw [hv, ha] at this
    obtain ⟨carr2, ty2, fz2, hb2, h2⟩ := cell_row this
    rw [hb] at hb2
    cases hb2
    rw [h2, hv]
  have hsz : a.off + n ≤ carr.size := by
    obtain ⟨v, hv⟩ := hs (n - 1) (by omega)
    have := hg (n - 1) (by omega)
    rw [hv] at this
    have := (Array.getElem?_eq_some_iff.1 this).1
    omega
  refine ⟨carr, ty, fz, hb, ?_, hsz⟩
  apply List.ext_getElem?
  intro i
  by_cases hi : i < n
  · rw [List.getElem?_take, if_pos hi, List.getElem?_drop]
    exact ((Array.getElem?_toList (xs := carr)).trans (hg i hi)).symm
  · rw [List.getElem?_take, if_neg hi, List.getElem?_eq_none (by omega)]
def Lays (enc : TypeId × Value → H) (P : Program) (W : World) (s : Sh) : Prop :=
  ∀ (fuel : Nat) (t : TypeId) (vs : List Value) (y : DataW H × List MemPlace), s.is P t = true → DataW.trod enc P W 0 (fun _ => true) true fuel t vs = some y → ∀ (μ : M) (Hp : Heap), Imp W μ Hp → Hp.n + s.cost < lim → Into W μ Hp s.cost vs s.Has
theorem lay_all {fuel : Nat} {e : Sh} (ih : Lays enc P W e) {te : TypeId} (hs : e.is P te = true) : ∀ (vss : List (List Value)), (∀ c, c ∈ vss → ∃ y, DataW.trod enc P W 0 (fun _ => true) true fuel te c = some y) → ∀ (μ : M) (Hp : Heap), Imp W μ Hp → Hp.n + vss.length * e.cost < lim →
    Into W μ Hp (vss.length * e.cost) vss.flatten fun ps => ∃ css : List (List PV), css.length = vss.length ∧ ps = css.flatten ∧ ∀ c, c ∈ css → e.Has c := by
  intro vss
  induction vss with
  | nil => intro _ μ Hp i _; exact ⟨μ, Hp, [], [], i, M.le.refl _, fun _ _ => rfl, Nat.le_refl _, by simp, .nil, .nil, [], rfl, rfl, fun c hc => by cases hc⟩
  | cons v vss ih2 =>
    intro hall μ Hp i hn
    rw [List.length_cons, Nat.succ_mul] at hn
    obtain ⟨y, hy⟩ := hall v (by simp)
    have h1 := ih fuel te v y hs hy μ Hp i (by omega)
    have h2 := h1.cons (d := vss.length * e.cost) (v2 := vss.flatten) (fun μ' H' i' hn' => ih2 (fun c hc => hall c (by simp [hc])) μ' H' i' (by omega))
    obtain ⟨μ', H', as, ps, j1, j2, j3, j4, j5, j6, j7, a, b, rfl, j8, css, j9, rfl, j10⟩ := h2
    exact ⟨μ', H', as, _, j1, j2, j3, j4, by rw [List.length_cons, Nat.succ_mul]; omega, j6, j7, a :: css, by simp [j9], by simp, fun c hc => by
      rcases List.mem_cons.1 hc with rfl | hc
      · exact j8
      · exact j10 c hc⟩
theorem lay_fields {fuel : Nat} (cs : List Value) : ∀ (fs : List Sh), (∀ f, f ∈ fs → Lays enc P W f) → ∀ (gs : List Field) (o : Nat), Sh.iss P fs gs o = true → (∀ g, g ∈ gs → ∃ y, DataW.trod enc P W 0 (fun _ => true) true fuel g.type ((cs.drop g.offset).take (P.cellsOf g.type)) = some y) → cs.length = o + Sh.ncs fs →
    ∀ (μ : M) (Hp : Heap), Imp W μ Hp → Hp.n + Sh.costs fs < lim → Into W μ Hp (Sh.costs fs) (cs.drop o) (Sh.HasL fs) := by
  intro fs
  induction fs with
  | nil =>
    intro _ gs o _ _ hl μ Hp i _
    rw [List.drop_of_length_le (by rw [hl]; simp [Sh.ncs])]
    exact ⟨μ, Hp, [], [], i, M.le.refl _, fun _ _ => rfl, Nat.le_refl _, by omega, .nil, .nil, rfl⟩
  | cons f fs ih2 =>
    intro ih gs o hi hall hl μ Hp i hn
    cases gs with
    | nil => simp [Sh.iss] at hi
    | cons g gs =>
      simp only [Sh.iss, Bool.and_eq_true, decide_eq_true_eq] at hi
      obtain ⟨⟨⟨h1, h2⟩, h3⟩, h4⟩ := hi
      simp only [Sh.ncs, Sh.costs] at hl hn
      obtain ⟨y, hy⟩ := hall g (by simp)
      rw [h1, h2] at hy
      have e1 := ih f (by simp) fuel g.type _ y h3 hy μ Hp i (by omega)
      have e2 := e1.cons (d := Sh.costs fs) (v2 := cs.drop (o + f.nc)) (fun μ' H' i' hn' => ih2 (fun f' hf' => ih f' (by simp [hf'])) gs (o + f.nc) h4 (fun g' hg' => hall g' (by simp [hg'])) (by omega) μ' H' i' (by omega))
      have e3 : (cs.drop o).take f.nc ++ cs.drop (o + f.nc) = cs.drop o := by rw [← List.drop_drop, List.take_append_drop]
      rw [e3] at e2
      exact e2
theorem lay_int (k : IntKind) : Lays enc P W (.int k) := by
  intro fuel t vs y hs h μ Hp i hn
  cases fuel with
  | zero => simp [DataW.trod] at h
  | succ fuel =>
  simp only [Sh.is] at hs
  split at hs
  · rename_i k' ht
    have hk : k' = k := of_decide_eq_true hs
    subst hk
    unfold DataW.trod at h
    rw [ht] at h
    split at h <;> first | cases h | skip
    all_goals (rename_i heq; try cases heq)
    split at h
    · rename_i hw
      obtain ⟨rfl, hw⟩ := hw
      exact Into.leaf i (.int _ _) (.int _ _) ⟨_, hw, rfl⟩
    · cases h
  · cases hs
theorem lay_bool : Lays enc P W .bool := by
  intro fuel t vs y hs h μ Hp i hn
  cases fuel with
  | zero => simp [DataW.trod] at h
  | succ fuel =>
  simp only [Sh.is] at hs
  split at hs
  · rename_i ht
    unfold DataW.trod at h
    rw [ht] at h
    split at h <;> first | cases h | skip
    all_goals (rename_i heq; try cases heq)
    exact Into.leaf i (.bool _) (.bool _) ⟨_, rfl⟩
  · cases hs
theorem lay_str : Lays enc P W .str := by
  intro fuel t vs y hs h μ Hp i hn
  cases fuel with
  | zero => simp [DataW.trod] at h
  | succ fuel =>
  simp only [Sh.is] at hs
  split at hs
  · rename_i ht
    unfold DataW.trod at h
    rw [ht] at h
    split at h <;> first | cases h | skip
    all_goals (rename_i heq; try cases heq)
    split at h
    · rename_i hw
      exact Into.leaf i (.str _) (.str _) ⟨_, hw, rfl⟩
    · cases h
  · cases hs
theorem lay_st {fs : List Sh} (ih : ∀ f, f ∈ fs → Lays enc P W f) : Lays enc P W (.st fs) := by
  intro fuel t vs y hs h μ Hp i hn
  simp only [Sh.is] at hs
  split at hs
  · rename_i gs ht
    simp only [Bool.and_eq_true, decide_eq_true_eq] at hs
    obtain ⟨hc, hs⟩ := hs
    obtain ⟨xs, n, -, -, hl, hlen, hall⟩ := DataW.trod_struct ht h
    have := lay_fields (fuel := n) vs fs ih gs.toList 0 hs (fun g hg => by
      obtain ⟨j, hj, rfl⟩ := List.mem_iff_getElem.1 hg
      have hj' : j < gs.size := by simpa using hj
      have := hall j gs[j] (Array.getElem?_eq_getElem hj')
      rw [List.getElem?_eq_getElem (by omega)] at this
      exact ⟨_, by simpa using this⟩) (by rw [hl, hc, Nat.zero_add]) μ Hp i (by simpa [Sh.cost] using hn)
    rw [List.drop_zero] at this
    simpa [Sh.cost, Sh.Has] using this
  · cases hs
theorem lay_sl {e : Sh} (ih : Lays enc P W e) : Lays enc P W (.sl e) := by
  intro fuel t vs y hs h μ Hp i hn
  simp only [Sh.is] at hs
  split at hs
  · rename_i te ht
    simp only [Bool.and_eq_true, decide_eq_true_eq] at hs
    obtain ⟨⟨hpos, hc⟩, hs⟩ := hs
    have hnil : ∀ (v : Value) (a : AV), VR μ a v → RelC Hp (fun _ => False) (.lst 0 []) a → Into W μ Hp (Sh.sl e).cost [v] (Sh.sl e).Has := fun v a h1 h2 => by
      obtain ⟨μ', H', as, ps, j1, j2, j3, j4, j5, j6, j7, j8⟩ := Into.leaf i h1 h2 (Q := (Sh.sl e).Has) ⟨0, [], rfl, Nat.zero_le _, fun _ => ⟨[], rfl, rfl, fun c hc => by cases hc⟩⟩
      exact ⟨μ', H', as, ps, j1, j2, j3, j4, by omega, j6, j7, j8⟩
    rcases open_slice ht h with ⟨rfl, -⟩ | ⟨a, len, cap, m, n, D, Pl, rfl, -, hl, hcap, hm, -, hall⟩
    · exact hnil _ _ .nils .lnil
    · by_cases h0 : len = 0
      · subst h0
        exact hnil _ _ (.sle _ _) .lsle
      · simp only [if_true] at hm
        rw [hc] at hall
        obtain ⟨c0, g0, -⟩ := hall 0 (by omega)
        rw [Nat.zero_mul] at g0
        have ha0 : a.add 0 = a := by unfold Addr.add; simp
        rw [ha0] at g0
        obtain ⟨ha, carr, ty, fz, hb, -, -⟩ := cells_row g0 hpos
        have hlt : a.block < W.heap.size := by
          rcases Nat.lt_or_ge a.block W.heap.size with h1 | h1
          · exact h1
          · rw [Array.getElem?_eq_none h1] at hb; cases hb
        have hrow : ∀ j, j < len → (∃ y, DataW.trod enc P W 0 (fun _ => true) true n te ((carr.toList.drop (a.off + j * e.nc)).take e.nc) = some y) ∧ a.off + (j + 1) * e.nc ≤ carr.size := fun j hj => by
          obtain ⟨cj, gj, tj⟩ := hall j (by omega)
          obtain ⟨-, carr2, ty2, fz2, hb2, hcj, hsz⟩ := cells_row gj hpos
          have ea : a.add (j * e.nc) = ⟨a.block, a.off + j * e.nc, none⟩ := by
            rw [ha]
            unfold Addr.add
            split
            · rename_i hz; rw [hz]; simp
            · rfl
          rw [ea] at hb2 hcj hsz
          rw [hb] at hb2
          cases hb2
          rw [hcj] at tj
          refine ⟨⟨_, tj⟩, ?_⟩
          have : (j + 1) * e.nc = j * e.nc + e.nc := Nat.succ_mul _ _
          simp only at hsz
          omega
        have hoff : a.off ≤ carr.size := by have := (hrow 0 (by omega)).2; omega
        have hraw : ∀ (as : List AV) (ν : M), VRs ν as ((carr.toList.drop a.off).take as.length) → as.length + a.off ≤ carr.size → VRs ν ((carr.toList.take a.off).map AV.raw ++ as) (carr.toList.take ((carr.toList.take a.off).map AV.raw ++ as).length) := fun as ν h1 h2 => by
          have e1 : ((carr.toList.take a.off).map AV.raw ++ as).length = a.off + as.length := by rw [List.length_append, List.length_map, List.length_take, Array.length_toList (xs := carr)]; omega
          rw [e1, List.take_add]
          exact All2.append (anys ν _) h1
        have hlay : ∀ (μ1 : M) (H1 : Heap) (as : List AV) (ps : List PV), Imp W μ1 H1 → M.le μ μ1 → (∀ B, B < Hp.n → H1.get B = Hp.get B) → Hp.n ≤ H1.n → H1.n + 1 ≤ Hp.n + (Sh.sl e).cost → VRs μ1 as ((carr.toList.drop a.off).take as.length) → as.length + a.off ≤ carr.size → All2 (RelC H1 fun _ => False) ps as →
            (Sh.sl e).Has [.lst len ps] → Into W μ Hp (Sh.sl e).cost [.slice (some a) len cap] (Sh.sl e).Has := fun μ1 H1 as ps i1 l1 g1 n1 m1 w1 z1 r1 q1 => by
          have hn1 : H1.n < lim := by omega
          have hp := fun b => Heap.get_push (H := H1) (b := b) hn1
          have hle : M.le μ1 (μ1.set H1.n ⟨a.block, carr.size, 0⟩) := M.le_set (i1.hr.dom _ (Nat.le_refl _))
          obtain ⟨k1, k2⟩ := i1.push hn1 (bi := ⟨a.block, carr.size, 0⟩) (b := .cells false ty ((carr.toList.take a.off).map AV.raw ++ as)) rfl (fun _ => ⟨hlt, blk0 rfl ⟨carr, fz, hb, rfl, by
            rw [List.length_append, List.length_map, List.length_take, Array.length_toList (xs := carr)]; omega, hraw as _ (w1.mono hle) z1, fun e => by cases e⟩⟩)
          have kk : ∀ A, A < H1.n → (H1.push (.cells false ty ((carr.toList.take a.off).map AV.raw ++ as))).get A = H1.get A := fun A hA => by rw [hp, if_neg (by omega)]
          refine ⟨_, _, [.sl H1.n a.off len cap], [.lst len ps], k1, l1.trans k2, fun B hB => by rw [kk B (by omega), g1 B hB], Nat.le_trans n1 (Nat.le_succ _), m1, .cons ?_ .nil, .cons ?_ .nil, q1⟩
          · rw [ha]
            exact VR.sl0 (M.set_self _ _ _)
          · have hal : List.length ps = List.length as := All2.length r1
            have ho : min a.off carr.size = a.off := Nat.min_eq_left hoff
            refine .sl (fun h => h) (by rw [hp, if_pos rfl]) ?_ hl ?_
            · rw [List.length_append, List.length_map, List.length_take, Array.length_toList (xs := carr), ho]
              exact Nat.add_le_add_left (Nat.le_of_eq hal) _
            · rw [List.drop_append, List.drop_of_length_le (by simp; omega), List.length_map, List.length_take, Array.length_toList (xs := carr), ho, Nat.sub_self, List.drop_zero, List.nil_append]
              rw [show List.length ps = List.length as from hal, List.take_length]
              exact rels_up r1 kk
        have hcap' : len ≤ maxLen := by omega
        by_cases hfull : e.cost = 0 ∨ len ≤ 100
        · have hsz : a.off + len * e.nc ≤ carr.size := by
            have := (hrow (len - 1) (by omega)).2
            rw [Nat.sub_add_cancel (by omega)] at this
            exact this
          have hbud : len * e.cost + 1 ≤ (Sh.sl e).cost := by
            simp only [Sh.cost]
            rcases hfull with h1 | h1
            · rw [h1]; simp
            · have := Nat.mul_le_mul_right e.cost h1
              rw [Nat.mul_comm e.cost 100]; omega
          obtain ⟨μ1, H1, as, ps, i1, l1, g1, n1, m1, w1, r1, css, q1, rfl, q3⟩ := lay_all ih hs ((List.range len).map fun j => ((carr.toList.drop a.off).drop (j * e.nc)).take e.nc) (fuel := n) (fun c hc => by
            obtain ⟨j, hj, rfl⟩ := List.mem_map.1 hc
            rw [List.drop_drop]
            exact (hrow j (List.mem_range.1 hj)).1) μ Hp i (by rw [List.length_map, List.length_range]; omega)
          rw [List.length_map, List.length_range] at q1 m1
          rw [chunks _ _ _ (by rw [List.length_drop, Array.length_toList (xs := carr)]; omega)] at w1
          have hal : as.length = len * e.nc := by rw [w1.length, List.length_take, List.length_drop, Array.length_toList (xs := carr)]; omega
          exact hlay μ1 H1 as css.flatten i1 l1 g1 n1 (by omega) (by rw [hal]; exact w1) (by omega) r1 ⟨len, _, rfl, hcap', fun _ => ⟨css, q1, rfl, q3⟩⟩
        · refine hlay μ Hp [] [] i (M.le.refl _) (fun _ _ => rfl) (Nat.le_refl _) (by simp only [Sh.cost]; omega) .nil (by simpa using hoff) .nil ⟨len, [], rfl, hcap', fun h1 => absurd h1 hfull⟩
  · cases hs
mutual
theorem lay_any : ∀ s : Sh, Lays enc P W s
  | .int k => lay_int k
  | .bool => lay_bool
  | .str => lay_str
  | .sl e => lay_sl (lay_any e)
  | .st fs => lay_st (lay_any_all fs)
theorem lay_any_all : ∀ (fs : List Sh) (f : Sh), f ∈ fs → Lays enc P W f
  | [] => fun _ h => absurd h (List.not_mem_nil)
  | g :: gs => fun f h => (List.mem_cons.1 h).elim (fun e => e ▸ lay_any g) (lay_any_all gs f)
end
end
end Go.PI
/- PLAIN VALUES: the body of a loop over a function. -/
namespace Go.PI
def Ex.cont (e : Ex) : Bool := e.jump.isNone
def LpD.to (y : LpD) (e : Ex) : LpD := { y with st := if e.cont then .ready else .done, e := e }
def LpD.busy (y : LpD) : LpD := { y with st := .busy }
end Go.PI
