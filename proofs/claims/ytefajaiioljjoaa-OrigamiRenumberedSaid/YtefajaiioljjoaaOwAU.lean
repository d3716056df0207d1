/- Own work of the verifier: PiAny OgBfs OgLabM OgIso. -/
import Derived.Test.YtefajaiioljjoaaOwAT
import Derived.Test.YtefajaiioljjoaaOwAK
import Derived.Deep.Slices
import Derived.ChangeArms
set_option linter.all false
set_option exponentiation.threshold 3000
set_option linter.deprecated false
/- ARGUMENTS OF ANY SHAPE: numbers, truth values, texts, slices, structs. -/
namespace Go.PI
open Go.ChangeShapes Go.WideShapes Go.ChangeAt Go.RowKit Go.Deep
set_option maxRecDepth 100000
inductive Sh where
  | int (k : IntKind)
  | bool
  | str
  | sl (e : Sh)
  | st (fs : List Sh)
mutual
def Sh.nc : Sh → Nat
  | .st fs => Sh.ncs fs
  | .int _ => 1
  | .bool => 1
  | .str => 1
  | .sl _ => 1
def Sh.ncs : List Sh → Nat
  | [] => 0
  | f :: fs => f.nc + Sh.ncs fs
end
mutual
def Sh.cost : Sh → Nat
  | .sl e => e.cost * 100 + 1
  | .st fs => Sh.costs fs
  | .int _ => 0
  | .bool => 0
  | .str => 0
def Sh.costs : List Sh → Nat
  | [] => 0
  | f :: fs => f.cost + Sh.costs fs
end
mutual
def Sh.is (P : Program) : Sh → TypeId → Bool
  | .int k, t => match P.underlying t with | some (.int k') => decide (k' = k) | _ => false
  | .bool, t => match P.underlying t with | some .bool => true | _ => false
  | .str, t => match P.underlying t with | some .string => true | _ => false
  | .sl e, t => match P.underlying t with | some (.slice te) => decide (0 < e.nc) && decide (P.cellsOf te = e.nc) && e.is P te | _ => false
  | .st fs, t => match P.underlying t with | some (.struct gs) => decide (P.cellsOf t = Sh.ncs fs) && Sh.iss P fs gs.toList 0 | _ => false
def Sh.iss (P : Program) : List Sh → List Field → Nat → Bool
  | [], gs, _ => gs.isEmpty
  | f :: fs, gs, o => match gs with | [] => false | g :: gs => decide (g.offset = o) && decide (P.cellsOf g.type = f.nc) && f.is P g.type && Sh.iss P fs gs (o + f.nc)
end
mutual
def Sh.Has : Sh → List PV → Prop
  | .int k, ps => ∃ n, (Lit.int k n).wf = true ∧ ps = [.int k n]
  | .bool, ps => ∃ b, ps = [.bool b]
  | .str, ps => ∃ s : ByteArray, s.size ≤ maxLen ∧ ps = [.str s]
  | .sl e, ps => ∃ (n : Nat) (cs : List PV), ps = [.lst n cs] ∧ n ≤ maxLen ∧ ((e.cost = 0 ∨ n ≤ 100) → ∃ css : List (List PV), css.length = n ∧ cs = css.flatten ∧ ∀ c, c ∈ css → e.Has c)
  | .st fs, ps => Sh.HasL fs ps
def Sh.HasL : List Sh → List PV → Prop
  | [], ps => ps = []
  | f :: fs, ps => ∃ a b, ps = a ++ b ∧ f.Has a ∧ Sh.HasL fs b
end
mutual
theorem Sh.Has.len : ∀ (s : Sh) {ps : List PV}, s.Has ps → ps.length = s.nc
  | .int _, _, ⟨_, _, e⟩ => by rw [e]; rfl
  | .bool, _, ⟨_, e⟩ => by rw [e]; rfl
  | .str, _, ⟨_, _, e⟩ => by rw [e]; rfl
  | .sl _, _, ⟨_, _, e, _⟩ => by rw [e]; rfl
  | .st fs, _, h => Sh.HasL.len fs h
theorem Sh.HasL.len : ∀ (fs : List Sh) {ps : List PV}, Sh.HasL fs ps → ps.length = Sh.ncs fs
  | [], _, h => by
    have h : _ = [] := h
    rw [h]; rfl
  | f :: fs, _, ⟨a, b, e, h1, h2⟩ => by rw [e, List.length_append, Sh.Has.len f h1, Sh.HasL.len fs h2]; rfl
end
def Into (W : World) (μ : M) (H : Heap) (c : Nat) (vs : List Value) (Q : List PV → Prop) : Prop :=
  ∃ (μ' : M) (H' : Heap) (as : List AV) (ps : List PV), Imp W μ' H' ∧ M.le μ μ' ∧ (∀ B, B < H.n → H'.get B = H.get B) ∧ H.n ≤ H'.n ∧ H'.n ≤ H.n + c ∧ VRs μ' as vs ∧ All2 (RelC H' fun _ => False) ps as ∧ Q ps
theorem rels_up {H H' : Heap} {ps : List PV} {as : List AV} (h : All2 (RelC H fun _ => False) ps as) (k : ∀ A, A < H.n → H'.get A = H.get A) : All2 (RelC H' fun _ => False) ps as :=
  All2.mono' (fun _ _ h => h.mono (fun A hA _ => k A hA) (fun _ _ h => h)) h
theorem Into.cons {W : World} {μ : M} {H : Heap} {c d : Nat} {v1 v2 : List Value} {Q1 Q2 : List PV → Prop} (h : Into W μ H c v1 Q1) (k : ∀ μ' H', Imp W μ' H' → H'.n ≤ H.n + c → Into W μ' H' d v2 Q2) :
    Into W μ H (c + d) (v1 ++ v2) fun ps => ∃ a b, ps = a ++ b ∧ Q1 a ∧ Q2 b := by
  obtain ⟨μ1, H1, a1, p1, i1, l1, g1, n1, m1, w1, r1, q1⟩ := h
  obtain ⟨μ2, H2, a2, p2, i2, l2, g2, n2, m2, w2, r2, q2⟩ := k μ1 H1 i1 m1
  exact ⟨μ2, H2, a1 ++ a2, p1 ++ p2, i2, l1.trans l2, fun B hB => by rw [g2 B (by omega), g1 B hB], by omega, by omega, (w1.mono l2).append w2, (rels_up r1 g2).append r2, _, _, rfl, q1, q2⟩
theorem Into.leaf {W : World} {μ : M} {H : Heap} (h : Imp W μ H) {a : AV} {v : Value} {p : PV} {Q : List PV → Prop} (hv : VR μ a v) (hr : RelC H (fun _ => False) p a) (hq : Q [p]) : Into W μ H 0 [v] Q :=
  ⟨μ, H, [a], [p], h, M.le.refl _, fun _ _ => rfl, Nat.le_refl _, Nat.le_refl _, .cons hv .nil, .cons hr .nil, hq⟩
theorem chunks {α : Type} (L : List α) (k : Nat) : ∀ n, n * k ≤ L.length → ((List.range n).map fun i => (L.drop (i * k)).take k).flatten = L.take (n * k) := by
  intro n
  induction n with
  | zero => intro _; simp
  | succ n ih =>
    intro h
    rw [Nat.succ_mul] at h
    rw [List.range_succ, List.map_append, List.flatten_append, ih (by omega)]
    simp only [List.map_cons, List.map_nil, List.flatten_cons, List.flatten_nil, List.append_nil]
    rw [Nat.succ_mul, List.take_add]
section
variable {H : Type} {enc : TypeId × Value → H} {P : Program} {W : World}
theorem cells_row {a : Addr} {n : Nat} {cs : List Value} (h : W.cells? 0 a n = some cs) (hn : 0 < n) :
    a = ⟨a.block, a.off, none⟩ ∧ ∃ carr ty fz, W.heap[a.block]? = some (.cells carr ty fz) ∧ cs = (carr.toList.drop a.off).take n ∧ a.off + n ≤ carr.size := by
  obtain ⟨-, hl, hc⟩ := World.cells?_some h
  have hs : ∀ i, i < n → ∃ v, cs[i]? = some v := fun i hi => ⟨_, List.getElem?_eq_getElem (by omega)⟩
  obtain ⟨v0, hv0⟩ := hs 0 hn
  have h0 := hc 0 hn
  rw [hv0] at h0
  have ha := cell_zero h0
  refine ⟨ha, ?_⟩
  rw [ha] at h0
  obtain ⟨carr, ty, fz, hb, -⟩ := cell_row h0
  have hg : ∀ i, i < n → carr[a.off + i]? = cs[i]? := fun i hi => by
    obtain ⟨v, hv⟩ := hs i hi
    have := hc i hi
    rw [hv, ha] at this
    obtain ⟨carr2, ty2, fz2, hb2, h2⟩ := cell_row this
    rw [hb] at hb2
    cases hb2
    rw [h2, hv]
  have hsz : a.off + n ≤ carr.size := by
    obtain ⟨v, hv⟩ := hs (n - 1) (by omega)
    have := hg (n - 1) (by omega)
    rw [hv] at this
    have := (Array.getElem?_eq_some_iff.1 this).1
    omega
  refine ⟨carr, ty, fz, hb, ?_, hsz⟩
  apply List.ext_getElem?
  intro i
  by_cases hi : i < n
  · rw [List.getElem?_take, if_pos hi, List.getElem?_drop]
    exact ((Array.getElem?_toList (xs := carr)).trans (hg i hi)).symm
  · rw [List.getElem?_take, if_neg hi, List.getElem?_eq_none (by omega)]
def Lays (enc : TypeId × Value → H) (P : Program) (W : World) (s : Sh) : Prop :=
  ∀ (fuel : Nat) (t : TypeId) (vs : List Value) (y : DataW H × List MemPlace), s.is P t = true → DataW.trod enc P W 0 (fun _ => true) true fuel t vs = some y → ∀ (μ : M) (Hp : Heap), Imp W μ Hp → Hp.n + s.cost < lim → Into W μ Hp s.cost vs s.Has
theorem lay_all {fuel : Nat} {e : Sh} (ih : Lays enc P W e) {te : TypeId} (hs : e.is P te = true) : ∀ (vss : List (List Value)), (∀ c, c ∈ vss → ∃ y, DataW.trod enc P W 0 (fun _ => true) true fuel te c = some y) → ∀ (μ : M) (Hp : Heap), Imp W μ Hp → Hp.n + vss.length * e.cost < lim →
    Into W μ Hp (vss.length * e.cost) vss.flatten fun ps => ∃ css : List (List PV), css.length = vss.length ∧ ps = css.flatten ∧ ∀ c, c ∈ css → e.Has c := by
  intro vss
  induction vss with
  | nil => intro _ μ Hp i _; exact ⟨μ, Hp, [], [], i, M.le.refl _, fun _ _ => rfl, Nat.le_refl _, by simp, .nil, .nil, [], rfl, rfl, fun c hc => by cases hc⟩
  | cons v vss ih2 =>
    intro hall μ Hp i hn
    rw [List.length_cons, Nat.succ_mul] at hn
    obtain ⟨y, hy⟩ := hall v (by simp)
    have h1 := ih fuel te v y hs hy μ Hp i (by omega)
    have h2 := h1.cons (d := vss.length * e.cost) (v2 := vss.flatten) (fun μ' H' i' hn' => ih2 (fun c hc => hall c (by simp [hc])) μ' H' i' (by omega))
    obtain ⟨μ', H', as, ps, j1, j2, j3, j4, j5, j6, j7, a, b, rfl, j8, css, j9, rfl, j10⟩ := h2
    exact ⟨μ', H', as, _, j1, j2, j3, j4, by rw [List.length_cons, Nat.succ_mul]; omega, j6, j7, a :: css, by simp [j9], by simp, fun c hc => by
      rcases List.mem_cons.1 hc with rfl | hc
      · exact j8
      · exact j10 c hc⟩
theorem lay_fields {fuel : Nat} (cs : List Value) : ∀ (fs : List Sh), (∀ f, f ∈ fs → Lays enc P W f) → ∀ (gs : List Field) (o : Nat), Sh.iss P fs gs o = true → (∀ g, g ∈ gs → ∃ y, DataW.trod enc P W 0 (fun _ => true) true fuel g.type ((cs.drop g.offset).take (P.cellsOf g.type)) = some y) → cs.length = o + Sh.ncs fs →
    ∀ (μ : M) (Hp : Heap), Imp W μ Hp → Hp.n + Sh.costs fs < lim → Into W μ Hp (Sh.costs fs) (cs.drop o) (Sh.HasL fs) := by
  intro fs
  induction fs with
  | nil =>
    intro _ gs o _ _ hl μ Hp i _
    rw [List.drop_of_length_le (by rw [hl]; simp [Sh.ncs])]
    exact ⟨μ, Hp, [], [], i, M.le.refl _, fun _ _ => rfl, Nat.le_refl _, by omega, .nil, .nil, rfl⟩
  | cons f fs ih2 =>
    intro ih gs o hi hall hl μ Hp i hn
    cases gs with
    | nil => simp [Sh.iss] at hi
    | cons g gs =>
      simp only [Sh.iss, Bool.and_eq_true, decide_eq_true_eq] at hi
      obtain ⟨⟨⟨h1, h2⟩, h3⟩, h4⟩ := hi
      simp only [Sh.ncs, Sh.costs] at hl hn
      obtain ⟨y, hy⟩ := hall g (by simp)
      rw [h1, h2] at hy
      have e1 := ih f (by simp) fuel g.type _ y h3 hy μ Hp i (by omega)
      have e2 := e1.cons (d := Sh.costs fs) (v2 := cs.drop (o + f.nc)) (fun μ' H' i' hn' => ih2 (fun f' hf' => ih f' (by simp [hf'])) gs (o + f.nc) h4 (fun g' hg' => hall g' (by simp [hg'])) (by omega) μ' H' i' (by omega))
      have e3 : (cs.drop o).take f.nc ++ cs.drop (o + f.nc) = cs.drop o := by rw [← List.drop_drop, List.take_append_drop]
      rw [e3] at e2
      exact e2
theorem lay_int (k : IntKind) : Lays enc P W (.int k) := by
  intro fuel t vs y hs h μ Hp i hn
  cases fuel with
  | zero => simp [DataW.trod] at h
  | succ fuel =>
  simp only [Sh.is] at hs
  split at hs
  · rename_i k' ht
    have hk : k' = k := of_decide_eq_true hs
    subst hk
    unfold DataW.trod at h
    rw [ht] at h
    split at h <;> first | cases h | skip
    all_goals (rename_i heq; try cases heq)
    split at h
    · rename_i hw
      obtain ⟨rfl, hw⟩ := hw
      exact Into.leaf i (.int _ _) (.int _ _) ⟨_, hw, rfl⟩
    · cases h
  · cases hs
theorem lay_bool : Lays enc P W .bool := by
  intro fuel t vs y hs h μ Hp i hn
  cases fuel with
  | zero => simp [DataW.trod] at h
  | succ fuel =>
  simp only [Sh.is] at hs
  split at hs
  · rename_i ht
    unfold DataW.trod at h
    rw [ht] at h
    split at h <;> first | cases h | skip
    all_goals (rename_i heq; try cases heq)
    exact Into.leaf i (.bool _) (.bool _) ⟨_, rfl⟩
  · cases hs
theorem lay_str : Lays enc P W .str := by
  intro fuel t vs y hs h μ Hp i hn
  cases fuel with
  | zero => simp [DataW.trod] at h
  | succ fuel =>
  simp only [Sh.is] at hs
  split at hs
  · rename_i ht
    unfold DataW.trod at h
    rw [ht] at h
    split at h <;> first | cases h | skip
    all_goals (rename_i heq; try cases heq)
    split at h
    · rename_i hw
      exact Into.leaf i (.str _) (.str _) ⟨_, hw, rfl⟩
    · cases h
  · cases hs
theorem lay_st {fs : List Sh} (ih : ∀ f, f ∈ fs → Lays enc P W f) : Lays enc P W (.st fs) := by
  intro fuel t vs y hs h μ Hp i hn
  simp only [Sh.is] at hs
  split at hs
  · rename_i gs ht
    simp only [Bool.and_eq_true, decide_eq_true_eq] at hs
    obtain ⟨hc, hs⟩ := hs
    obtain ⟨xs, n, -, -, hl, hlen, hall⟩ := DataW.trod_struct ht h
    have := lay_fields (fuel := n) vs fs ih gs.toList 0 hs (fun g hg => by
      obtain ⟨j, hj, rfl⟩ := List.mem_iff_getElem.1 hg
      have hj' : j < gs.size := by simpa using hj
      have := hall j gs[j] (Array.getElem?_eq_getElem hj')
      rw [List.getElem?_eq_getElem (by omega)] at this
      exact ⟨_, by simpa using this⟩) (by rw [hl, hc, Nat.zero_add]) μ Hp i (by simpa [Sh.cost] using hn)
    rw [List.drop_zero] at this
    simpa [Sh.cost, Sh.Has] using this
  · cases hs
theorem lay_sl {e : Sh} (ih : Lays enc P W e) : Lays enc P W (.sl e) := by
  intro fuel t vs y hs h μ Hp i hn
  simp only [Sh.is] at hs
  split at hs
  · rename_i te ht
    simp only [Bool.and_eq_true, decide_eq_true_eq] at hs
    obtain ⟨⟨hpos, hc⟩, hs⟩ := hs
    have hnil : ∀ (v : Value) (a : AV), VR μ a v → RelC Hp (fun _ => False) (.lst 0 []) a → Into W μ Hp (Sh.sl e).cost [v] (Sh.sl e).Has := fun v a h1 h2 => by
      obtain ⟨μ', H', as, ps, j1, j2, j3, j4, j5, j6, j7, j8⟩ := Into.leaf i h1 h2 (Q := (Sh.sl e).Has) ⟨0, [], rfl, Nat.zero_le _, fun _ => ⟨[], rfl, rfl, fun c hc => by cases hc⟩⟩
      exact ⟨μ', H', as, ps, j1, j2, j3, j4, by omega, j6, j7, j8⟩
    rcases open_slice ht h with ⟨rfl, -⟩ | ⟨a, len, cap, m, n, D, Pl, rfl, -, hl, hcap, hm, -, hall⟩
    · exact hnil _ _ .nils .lnil
    · by_cases h0 : len = 0
      · subst h0
        exact hnil _ _ (.sle _ _) .lsle
      · simp only [if_true] at hm
        rw [hc] at hall
        obtain ⟨c0, g0, -⟩ := hall 0 (by omega)
        rw [Nat.zero_mul] at g0
        have ha0 : a.add 0 = a := by unfold Addr.add; simp
        rw [ha0] at g0
        obtain ⟨ha, carr, ty, fz, hb, -, -⟩ := cells_row g0 hpos
        have hlt : a.block < W.heap.size := by
          rcases Nat.lt_or_ge a.block W.heap.size with h1 | h1
          · exact h1
          · rw [Array.getElem?_eq_none h1] at hb; cases hb
        have hrow : ∀ j, j < len → (∃ y, DataW.trod enc P W 0 (fun _ => true) true n te ((carr.toList.drop (a.off + j * e.nc)).take e.nc) = some y) ∧ a.off + (j + 1) * e.nc ≤ carr.size := fun j hj => by
          obtain ⟨cj, gj, tj⟩ := hall j (by omega)
          obtain ⟨-, carr2, ty2, fz2, hb2, hcj, hsz⟩ := cells_row gj hpos
          have ea : a.add (j * e.nc) = ⟨a.block, a.off + j * e.nc, none⟩ := by
            rw [ha]
            unfold Addr.add
            split
            · rename_i hz; rw [hz]; simp
            · rfl
          rw [ea] at hb2 hcj hsz
          rw [hb] at hb2
          cases hb2
          rw [hcj] at tj
          refine ⟨⟨_, tj⟩, ?_⟩
          have : (j + 1) * e.nc = j * e.nc + e.nc := Nat.succ_mul _ _
          simp only at hsz
          omega
        have hoff : a.off ≤ carr.size := by have := (hrow 0 (by omega)).2; omega
        have hraw : ∀ (as : List AV) (ν : M), VRs ν as ((carr.toList.drop a.off).take as.length) → as.length + a.off ≤ carr.size → VRs ν ((carr.toList.take a.off).map AV.raw ++ as) (carr.toList.take ((carr.toList.take a.off).map AV.raw ++ as).length) := fun as ν h1 h2 => by
          have e1 : ((carr.toList.take a.off).map AV.raw ++ as).length = a.off + as.length := by rw [List.length_append, List.length_map, List.length_take, Array.length_toList (xs := carr)]; omega
          rw [e1, List.take_add]
          exact All2.append (anys ν _) h1
        have hlay : ∀ (μ1 : M) (H1 : Heap) (as : List AV) (ps : List PV), Imp W μ1 H1 → M.le μ μ1 → (∀ B, B < Hp.n → H1.get B = Hp.get B) → Hp.n ≤ H1.n → H1.n + 1 ≤ Hp.n + (Sh.sl e).cost → VRs μ1 as ((carr.toList.drop a.off).take as.length) → as.length + a.off ≤ carr.size → All2 (RelC H1 fun _ => False) ps as →
            (Sh.sl e).Has [.lst len ps] → Into W μ Hp (Sh.sl e).cost [.slice (some a) len cap] (Sh.sl e).Has := fun μ1 H1 as ps i1 l1 g1 n1 m1 w1 z1 r1 q1 => by
          have hn1 : H1.n < lim := by omega
          have hp := fun b => Heap.get_push (H := H1) (b := b) hn1
          have hle : M.le μ1 (μ1.set H1.n ⟨a.block, carr.size, 0⟩) := M.le_set (i1.hr.dom _ (Nat.le_refl _))
          obtain ⟨k1, k2⟩ := i1.push hn1 (bi := ⟨a.block, carr.size, 0⟩) (b := .cells false ty ((carr.toList.take a.off).map AV.raw ++ as)) rfl (fun _ => ⟨hlt, blk0 rfl ⟨carr, fz, hb, rfl, by
            rw [List.length_append, List.length_map, List.length_take, Array.length_toList (xs := carr)]; omega, hraw as _ (w1.mono hle) z1, fun e => by cases e⟩⟩)
          have kk : ∀ A, A < H1.n → (H1.push (.cells false ty ((carr.toList.take a.off).map AV.raw ++ as))).get A = H1.get A := fun A hA => by rw [hp, if_neg (by omega)]
          refine ⟨_, _, [.sl H1.n a.off len cap], [.lst len ps], k1, l1.trans k2, fun B hB => by rw [kk B (by omega), g1 B hB], Nat.le_trans n1 (Nat.le_succ _), m1, .cons ?_ .nil, .cons ?_ .nil, q1⟩
          · rw [ha]
            exact VR.sl0 (M.set_self _ _ _)
          · have hal : List.length ps = List.length as := All2.length r1
            have ho : min a.off carr.size = a.off := Nat.min_eq_left hoff
            refine .sl (fun h => h) (by rw [hp, if_pos rfl]) ?_ hl ?_
            · rw [List.length_append, List.length_map, List.length_take, Array.length_toList (xs := carr), ho]
              exact Nat.add_le_add_left (Nat.le_of_eq hal) _
            · rw [List.drop_append, List.drop_of_length_le (by simp; omega), List.length_map, List.length_take, Array.length_toList (xs := carr), ho, Nat.sub_self, List.drop_zero, List.nil_append]
              rw [show List.length ps = List.length as from hal, List.take_length]
              exact rels_up r1 kk
        have hcap' : len ≤ maxLen := by omega
        by_cases hfull : e.cost = 0 ∨ len ≤ 100
        · have hsz : a.off + len * e.nc ≤ carr.size := by
            have := (hrow (len - 1) (by omega)).2
            rw [Nat.sub_add_cancel (by omega)] at this
            exact this
          have hbud : len * e.cost + 1 ≤ (Sh.sl e).cost := by
            simp only [Sh.cost]
            rcases hfull with h1 | h1
            · rw [h1]; simp
            · have := Nat.mul_le_mul_right e.cost h1
              rw [Nat.mul_comm e.cost 100]; omega
          obtain ⟨μ1, H1, as, ps, i1, l1, g1, n1, m1, w1, r1, css, q1, rfl, q3⟩ := lay_all ih hs ((List.range len).map fun j => ((carr.toList.drop a.off).drop (j * e.nc)).take e.nc) (fuel := n) (fun c hc => by
            obtain ⟨j, hj, rfl⟩ := List.mem_map.1 hc
            rw [List.drop_drop]
            exact (hrow j (List.mem_range.1 hj)).1) μ Hp i (by rw [List.length_map, List.length_range]; omega)
          rw [List.length_map, List.length_range] at q1 m1
          rw [chunks _ _ _ (by rw [List.length_drop, Array.length_toList (xs := carr)]; omega)] at w1
          have hal : as.length = len * e.nc := by rw [w1.length, List.length_take, List.length_drop, Array.length_toList (xs := carr)]; omega
          exact hlay μ1 H1 as css.flatten i1 l1 g1 n1 (by omega) (by rw [hal]; exact w1) (by omega) r1 ⟨len, _, rfl, hcap', fun _ => ⟨css, q1, rfl, q3⟩⟩
        · refine hlay μ Hp [] [] i (M.le.refl _) (fun _ _ => rfl) (Nat.le_refl _) (by simp only [Sh.cost]; omega) .nil (by simpa using hoff) .nil ⟨len, [], rfl, hcap', fun h1 => absurd h1 hfull⟩
  · cases hs
mutual
theorem lay_any : ∀ s : Sh, Lays enc P W s
  | .int k => lay_int k
  | .bool => lay_bool
  | .str => lay_str
  | .sl e => lay_sl (lay_any e)
  | .st fs => lay_st (lay_any_all fs)
theorem lay_any_all : ∀ (fs : List Sh) (f : Sh), f ∈ fs → Lays enc P W f
  | [] => fun _ h => absurd h (List.not_mem_nil)
  | g :: gs => fun f h => (List.mem_cons.1 h).elim (fun e => e ▸ lay_any g) (lay_any_all gs f)
end
end
end Go.PI
/- SQUARES in the order in which they are reached. -/
namespace Go.PI
def addL (xs : List Nat) (x : Nat) : List Nat := if x ∈ xs then xs else xs ++ [x]
theorem addL_mem {xs : List Nat} {x y : Nat} : y ∈ addL xs x ↔ y ∈ xs ∨ y = x := by
  unfold addL
  by_cases h : x ∈ xs
  · rw [if_pos h]
    exact ⟨.inl, fun a => by rcases a with a | rfl; exact a; exact h⟩
  · rw [if_neg h]; simp
theorem addL_nodup {xs : List Nat} {x : Nat} (h : xs.Nodup) : (addL xs x).Nodup := by
  unfold addL
  by_cases hx : x ∈ xs
  · rw [if_pos hx]; exact h
  · rw [if_neg hx]
    exact List.nodup_append.2 ⟨h, by simp, fun a ha b hb => by rw [List.mem_singleton.1 hb]; rintro rfl; exact hx ha⟩
theorem addL_pre {xs : List Nat} {x : Nat} : xs <+: addL xs x := by
  unfold addL
  by_cases hx : x ∈ xs
  · rw [if_pos hx]; exact List.prefix_refl _
  · rw [if_neg hx]; exact List.prefix_append _ _
theorem addL_get {xs : List Nat} {x y p : Nat} (h : (addL xs x)[p]? = some y) : xs[p]? = some y ∨ (p = xs.length ∧ y = x) := by
  unfold addL at h
  by_cases hx : x ∈ xs
  · rw [if_pos hx] at h; exact .inl h
  · rw [if_neg hx] at h
    rcases Nat.lt_trichotomy p xs.length with a | a | a
    · rw [List.getElem?_append_left a] at h; exact .inl h
    · subst a; simp at h; exact .inr ⟨rfl, h.symm⟩
    · rw [List.getElem?_eq_none (by simp; omega)] at h; cases h
section
variable (f g : Nat → Nat) (s : Nat)
def nxt (xs : List Nat) (i : Nat) : List Nat :=
  match xs[i]? with
  | some x => addL (addL xs (f x)) (g x)
  | none => xs
def bfs : Nat → List Nat
  | 0 => [s]
  | i + 1 => nxt f g (bfs i) i
inductive Rch : Nat → Prop
  | refl : Rch s
  | f {y : Nat} (h : Rch y) : Rch (f y)
  | g {y : Nat} (h : Rch y) : Rch (g y)
def RchK : Nat → Nat → Prop
  | 0, y => y = s
  | k + 1, y => RchK k y ∨ ∃ z, RchK k z ∧ (y = f z ∨ y = g z)
end
section
variable {f g : Nat → Nat} {s : Nat}
theorem nxt_at {xs : List Nat} {i x : Nat} (h : xs[i]? = some x) : nxt f g xs i = addL (addL xs (f x)) (g x) := by unfold nxt; rw [h]
theorem nxt_pre {xs : List Nat} {i : Nat} : xs <+: nxt f g xs i := by
  unfold nxt
  split
  · exact List.IsPrefix.trans addL_pre addL_pre
  · exact List.prefix_refl _
theorem bfs_pre : ∀ (k : Nat) {i : Nat}, bfs f g s i <+: bfs f g s (i + k)
  | 0, _ => List.prefix_refl _
  | k + 1, i => List.IsPrefix.trans (bfs_pre k) (show bfs f g s (i + k) <+: nxt f g (bfs f g s (i + k)) (i + k) from nxt_pre)
theorem bfs_nodup : ∀ i, (bfs f g s i).Nodup
  | 0 => by simp [bfs]
  | i + 1 => by
    show (nxt f g (bfs f g s i) i).Nodup
    unfold nxt
    split
    · exact addL_nodup (addL_nodup (bfs_nodup i))
    · exact bfs_nodup i
theorem bfs_lt {n : Nat} {f' g' : Nat → Nat} (pf : IsP n f f') (pg : IsP n g g') (hs : s < n) : ∀ i, ∀ y ∈ bfs f g s i, y < n
  | 0, y, hy => by rw [List.mem_singleton.1 hy]; exact hs
  | i + 1, y, hy => by
    have ih := bfs_lt pf pg hs i
    change y ∈ nxt f g (bfs f g s i) i at hy
    unfold nxt at hy
    split at hy
    · rename_i x hx
      have hxn := ih x (List.mem_of_getElem? hx)
      rcases addL_mem.1 hy with hy | rfl
      · rcases addL_mem.1 hy with hy | rfl
        · exact ih y hy
        · exact pf.lt x hxn
      · exact pg.lt x hxn
    · exact ih y hy
theorem bfs_len {n : Nat} {f' g' : Nat → Nat} (pf : IsP n f f') (pg : IsP n g g') (hs : s < n) (i : Nat) : (bfs f g s i).length ≤ n := by
  have := len_le_of (bfs_nodup (f := f) (g := g) (s := s) i) (m := List.range n) fun y hy => List.mem_range.2 (bfs_lt pf pg hs i y hy)
  rwa [List.length_range] at this
theorem bfs_get {i p k y : Nat} (h : (bfs f g s i)[p]? = some y) : (bfs f g s (i + k))[p]? = some y := by
  obtain ⟨t, ht⟩ := bfs_pre (f := f) (g := g) (s := s) k (i := i)
  rw [← ht, List.getElem?_append_left (List.getElem?_eq_some_iff.1 h).1]
  exact h
theorem bfs_mem {i k y : Nat} (h : y ∈ bfs f g s i) : y ∈ bfs f g s (i + k) := (bfs_pre (f := f) (g := g) (s := s) k (i := i)).subset h
theorem bfs_steps {i p y : Nat} (hp : p < i) (h : (bfs f g s i)[p]? = some y) : f y ∈ bfs f g s i ∧ g y ∈ bfs f g s i := by
  have hy : (bfs f g s p)[p]? = some y ∨ p ≥ (bfs f g s p).length := by
    rcases Nat.lt_or_ge p (bfs f g s p).length with a | a
    · obtain ⟨z, hz⟩ : ∃ z, (bfs f g s p)[p]? = some z := ⟨_, List.getElem?_eq_getElem a⟩
      have := bfs_get (k := i - p) hz
      rw [show p + (i - p) = i by omega, h] at this
      cases this
      exact .inl hz
    · exact .inr a
  rcases hy with hy | hy
  · have e : bfs f g s (p + 1) = addL (addL (bfs f g s p) (f y)) (g y) := nxt_at hy
    have h1 : f y ∈ bfs f g s (p + 1) := by rw [e, addL_mem, addL_mem]; exact .inl (.inr rfl)
    have h2 : g y ∈ bfs f g s (p + 1) := by rw [e, addL_mem]; exact .inr rfl
    have a := bfs_mem (k := i - (p + 1)) h1
    have b := bfs_mem (k := i - (p + 1)) h2
    rw [show p + 1 + (i - (p + 1)) = i by omega] at a b
    exact ⟨a, b⟩
  · exfalso
    have hst : ∀ k, bfs f g s (p + k) = bfs f g s p := by
      intro k
      induction k with
      | zero => rfl
      | succ k ih =>
        show nxt f g (bfs f g s (p + k)) (p + k) = _
        rw [ih]
        unfold nxt
        rw [List.getElem?_eq_none (by omega)]
    have := hst (i - p)
    rw [show p + (i - p) = i by omega] at this
    rw [this, List.getElem?_eq_none hy] at h
    cases h
theorem bfs_stop {k : Nat} (h : (bfs f g s k).length ≤ k) : ∀ m, bfs f g s (k + m) = bfs f g s k
  | 0 => rfl
  | m + 1 => by
    show nxt f g (bfs f g s (k + m)) (k + m) = _
    rw [bfs_stop h m]
    unfold nxt
    rw [List.getElem?_eq_none (by omega)]
theorem bfs_all {k : Nat} (h : (bfs f g s k).length ≤ k) {y : Nat} (hy : Rch f g s y) : y ∈ bfs f g s k := by
  induction hy with
  | refl =>
    have := bfs_mem (k := k) (show s ∈ bfs f g s 0 by simp [bfs])
    rwa [Nat.zero_add] at this
  | f _ ih =>
    obtain ⟨p, hp⟩ := List.getElem?_of_mem ih
    have := (List.getElem?_eq_some_iff.1 hp).1
    exact (bfs_steps (by omega) hp).1
  | g _ ih =>
    obtain ⟨p, hp⟩ := List.getElem?_of_mem ih
    have := (List.getElem?_eq_some_iff.1 hp).1
    exact (bfs_steps (by omega) hp).2
theorem rchK_mono {k y : Nat} : ∀ m, RchK f g s k y → RchK f g s (k + m) y
  | 0, h => h
  | m + 1, h => .inl (rchK_mono m h)
theorem rchK_rch : ∀ {k y : Nat}, RchK f g s k y → Rch f g s y
  | 0, _, h => by rw [show _ = s from h]; exact .refl
  | k + 1, y, h => by
    rcases h with h | ⟨z, h, rfl | rfl⟩
    · exact rchK_rch h
    · exact .f (rchK_rch h)
    · exact .g (rchK_rch h)
theorem bfs_dist : ∀ (i p y : Nat), (bfs f g s i)[p]? = some y → RchK f g s p y
  | 0, p, y, h => by
    cases p with
    | zero => simp [bfs] at h; exact h.symm
    | succ p => simp [bfs] at h
  | i + 1, p, y, h => by
    change (nxt f g (bfs f g s i) i)[p]? = some y at h
    unfold nxt at h
    split at h
    · rename_i x hx
      have hxi := (List.getElem?_eq_some_iff.1 hx).1
      have hxd := bfs_dist i i x hx
      rcases addL_get h with h | ⟨hp, rfl⟩
      · rcases addL_get h with h | ⟨hp, rfl⟩
        · exact bfs_dist i p y h
        · have : RchK f g s (i + 1) (f x) := .inr ⟨x, hxd, .inl rfl⟩
          have := rchK_mono (p - (i + 1)) this
          rwa [show i + 1 + (p - (i + 1)) = p by omega] at this
      · have h1 : (bfs f g s i).length ≤ (addL (bfs f g s i) (f x)).length := (addL_pre (xs := bfs f g s i) (x := f x)).length_le
        have : RchK f g s (i + 1) (g x) := .inr ⟨x, hxd, .inr rfl⟩
        have := rchK_mono (p - (i + 1)) this
        rwa [show i + 1 + (p - (i + 1)) = p by omega] at this
    · exact bfs_dist i p y h
theorem bfs_rch {i y : Nat} (h : y ∈ bfs f g s i) : Rch f g s y := by
  obtain ⟨p, hp⟩ := List.getElem?_of_mem h
  exact rchK_rch (bfs_dist i p y hp)
theorem bfs_iff {k : Nat} (h : (bfs f g s k).length ≤ k) {y : Nat} : y ∈ bfs f g s k ↔ Rch f g s y := ⟨bfs_rch, bfs_all h⟩
theorem Rch.trans {y z : Nat} (a : Rch f g s y) (b : Rch f g y z) : Rch f g s z := by
  induction b with
  | refl => exact a
  | f _ ih => exact .f ih
  | g _ ih => exact .g ih
theorem Rch.itf {k y : Nat} (h : Rch f g s y) : Rch f g s (it f k y) := by
  induction k with
  | zero => exact h
  | succ k ih => exact .f ih
theorem Rch.itg {k y : Nat} (h : Rch f g s y) : Rch f g s (it g k y) := by
  induction k with
  | zero => exact h
  | succ k ih => exact .g ih
theorem rch_lt {n : Nat} {f' g' : Nat → Nat} (pf : IsP n f f') (pg : IsP n g g') (hs : s < n) {y : Nat} (h : Rch f g s y) : y < n := by
  induction h with
  | refl => exact hs
  | f _ ih => exact pf.lt _ ih
  | g _ ih => exact pg.lt _ ih
theorem Rch.symm {n : Nat} {f' g' : Nat → Nat} (pf : IsP n f f') (pg : IsP n g g') (hs : s < n) {y : Nat} (h : Rch f g s y) : Rch f g y s := by
  induction h with
  | refl => exact .refl
  | @f z hz ih =>
    have hzn := rch_lt pf pg hs hz
    obtain ⟨k, hk⟩ := InC.symm pf hzn (⟨1, rfl⟩ : InC f z (f z))
    exact (show Rch f g (f z) z by have := Rch.itf (g := g) (k := k) (.refl : Rch f g (f z) (f z)); rwa [hk] at this).trans ih
  | @g z hz ih =>
    have hzn := rch_lt pf pg hs hz
    obtain ⟨k, hk⟩ := InC.symm pg hzn (⟨1, rfl⟩ : InC g z (g z))
    exact (show Rch f g (g z) z by have := Rch.itg (f := f) (k := k) (.refl : Rch f g (g z) (g z)); rwa [hk] at this).trans ih
end
def Conn (n : Nat) (f g : Nat → Nat) : Prop := ∀ y, y < n → Rch f g 0 y
theorem conn_len {n : Nat} {f f' g g' : Nat → Nat} (pf : IsP n f f') (pg : IsP n g g') (h0 : 0 < n) {k : Nat} (h : (bfs f g 0 k).length ≤ k) : (bfs f g 0 k).length = n ↔ Conn n f g := by
  have hle := bfs_len pf pg h0 k
  constructor
  · intro e y hy
    rw [← bfs_iff h]
    refine Classical.byContradiction fun hc => ?_
    have := len_le_of (List.nodup_cons.2 ⟨hc, bfs_nodup k⟩) (m := List.range n) fun z hz => by
      rcases List.mem_cons.1 hz with rfl | hz
      · exact List.mem_range.2 hy
      · exact List.mem_range.2 (bfs_lt pf pg h0 k z hz)
    simp only [List.length_cons, List.length_range] at this
    omega
  · intro hc
    have := len_le_of (l := List.range n) (m := bfs f g 0 k) (by unfold List.Nodup; exact List.pairwise_lt_range.imp fun h e => by omega) fun y hy => (bfs_iff h).2 (hc y (List.mem_range.1 hy))
    rw [List.length_range] at this
    omega
end Go.PI
/- NUMBERINGS AND LABELS: what they are. -/
namespace Go.PI
set_option maxRecDepth 10000
set_option maxHeartbeats 4000000
def es (f g : Nat → Nat) (n s k : Nat) : Nat := (bfs f g s n).getD k 0
def ei (f g : Nat → Nat) (n s x : Nat) : Nat := (bfs f g s n).idxOf x
theorem bfs_full {n s : Nat} {f f' g g' : Nat → Nat} (pf : IsP n f f') (pg : IsP n g g') (h0 : 0 < n) (hs : s < n) (hc : Conn n f g) : (bfs f g s n).length = n ∧ ∀ y, y < n → y ∈ bfs f g s n := by
  have hle := bfs_len pf pg hs n
  have hall : ∀ y, y < n → y ∈ bfs f g s n := fun y hy => bfs_all hle (((hc s hs).symm pf pg h0).trans (hc y hy))
  have := len_le_of (l := List.range n) (m := bfs f g s n) (by unfold List.Nodup; exact List.pairwise_lt_range.imp fun h e => by omega) fun y hy => hall y (List.mem_range.1 hy)
  rw [List.length_range] at this
  exact ⟨by omega, hall⟩
theorem es_get {n s k : Nat} {f f' g g' : Nat → Nat} (pf : IsP n f f') (pg : IsP n g g') (h0 : 0 < n) (hs : s < n) (hc : Conn n f g) (hk : k < n) : (bfs f g s n)[k]? = some (es f g n s k) := by
  have hl := (bfs_full pf pg h0 hs hc).1
  unfold es
  rw [List.getD_eq_getElem?_getD, List.getElem?_eq_getElem (show k < (bfs f g s n).length by omega)]
  rfl
theorem es_perm {n s : Nat} {f f' g g' : Nat → Nat} (pf : IsP n f f') (pg : IsP n g g') (h0 : 0 < n) (hs : s < n) (hc : Conn n f g) : IsP n (es f g n s) (ei f g n s) := by
  obtain ⟨hl, hall⟩ := bfs_full pf pg h0 hs hc
  have hnd : (bfs f g s n).Nodup := bfs_nodup n
  have hget := fun k hk => es_get (k := k) pf pg h0 hs hc hk
  have hlt : ∀ k, k < n → es f g n s k < n := fun k hk => bfs_lt pf pg hs n _ (List.mem_of_getElem? (hget k hk))
  have hidx : ∀ y, y < n → ei f g n s y < n := fun y hy => by
    have := List.idxOf_lt_length_of_mem (hall y hy)
    unfold ei; omega
  have hfg : ∀ y, y < n → es f g n s (ei f g n s y) = y := fun y hy => by
    have h1 := hget _ (hidx y hy)
    have h2 : (bfs f g s n)[(bfs f g s n).idxOf y]? = some y := by
      rw [List.getElem?_eq_getElem (List.idxOf_lt_length_of_mem (hall y hy)), List.getElem_idxOf]
    have h3 : (bfs f g s n)[ei f g n s y]? = some y := h2
    rw [h1] at h3
    exact Option.some.inj h3
  refine ⟨hlt, hidx, fun k hk => ?_, hfg⟩
  have e := hfg _ (hlt k hk)
  have h1 := hget _ (hidx _ (hlt k hk))
  rw [e, ← hget k hk] at h1
  exact (List.getElem?_inj (by have := hidx _ (hlt k hk); omega) hnd).1 h1
theorem bfs_more {n s i : Nat} {f f' g g' : Nat → Nat} (pf : IsP n f f') (pg : IsP n g g') (h0 : 0 < n) (hs : s < n) (hc : Conn n f g) (hi : i < n) : i < (bfs f g s i).length := by
  refine Nat.lt_of_not_le fun hle => ?_
  have := bfs_stop hle (n - i)
  rw [show i + (n - i) = n by omega] at this
  have h2 := (bfs_full pf pg h0 hs hc).1
  rw [this] at h2
  omega
theorem bfs_idx {n s i y : Nat} {f g : Nat → Nat} (hi : i ≤ n) (h : y ∈ bfs f g s i) : (bfs f g s i).idxOf y = ei f g n s y := by
  obtain ⟨t, ht⟩ := bfs_pre (f := f) (g := g) (s := s) (n - i) (i := i)
  rw [show i + (n - i) = n by omega] at ht
  unfold ei
  rw [← ht, List.idxOf_append, if_pos h]
def rn (e e' f : Nat → Nat) (k : Nat) : Nat := e' (f (e k))
def Lt (xs ys : List Int) : Prop := ∃ k a b, xs.take k = ys.take k ∧ xs[k]? = some a ∧ ys[k]? = some b ∧ a < b
theorem take_get {xs ys : List Int} {k i : Nat} (h : xs.take k = ys.take k) (hi : i < k) : xs[i]? = ys[i]? := by
  have := congrArg (fun l : List Int => l[i]?) h
  simp only [List.getElem?_take, if_pos hi] at this
  exact this
theorem lt_at {xs ys : List Int} {k : Nat} {a b : Int} (h : xs.take k = ys.take k) (ha : xs[k]? = some a) (hb : ys[k]? = some b) (hne : a ≠ b) : Lt xs ys ↔ a < b := by
  constructor
  · rintro ⟨k', a', b', h', ha', hb', hlt⟩
    rcases Nat.lt_trichotomy k' k with e | e | e
    · have := take_get h e
      rw [ha', hb'] at this
      have := Option.some.inj this
      omega
    · subst e
      rw [ha] at ha'; rw [hb] at hb'
      have := Option.some.inj ha'
      have := Option.some.inj hb'
      omega
    · have := take_get h' e
      rw [ha, hb] at this
      exact absurd (Option.some.inj this) hne
  · exact fun hlt => ⟨k, a, b, h, ha, hb, hlt⟩
theorem lt_irr {xs : List Int} : ¬ Lt xs xs := by
  rintro ⟨k, a, b, -, ha, hb, hlt⟩
  rw [ha] at hb
  have := Option.some.inj hb
  omega
theorem first_diff : ∀ {xs ys : List Int}, xs.length = ys.length → xs ≠ ys → ∃ k a b, xs.take k = ys.take k ∧ xs[k]? = some a ∧ ys[k]? = some b ∧ a ≠ b
  | [], [], _, h => absurd rfl h
  | [], _ :: _, h, _ => by simp at h
  | _ :: _, [], h, _ => by simp at h
  | x :: xs, y :: ys, hl, hne => by
    by_cases e : x = y
    · subst e
      obtain ⟨k, a, b, h1, h2, h3, h4⟩ := first_diff (xs := xs) (ys := ys) (by simpa using hl) (fun e => hne (by rw [e]))
      exact ⟨k + 1, a, b, by simp [h1], by simpa using h2, by simpa using h3, h4⟩
    · exact ⟨0, x, y, rfl, rfl, rfl, e⟩
theorem lt_app {R R' U U' : List Int} (h1 : R.length = R'.length) (h2 : U.length = U'.length) : Lt (R ++ U) (R' ++ U') ↔ Lt R R' ∨ (R = R' ∧ Lt U U') := by
  by_cases hR : R = R'
  · subst hR
    by_cases hU : U = U'
    · subst hU
      exact ⟨fun h => absurd h lt_irr, fun h => by rcases h with h | h; exact absurd h lt_irr; exact absurd h.2 lt_irr⟩
    · obtain ⟨k, a, b, g1, g2, g3, g4⟩ := first_diff h2 hU
      rw [lt_at (k := R.length + k) (a := a) (b := b) (by simp [List.take_append, g1, List.take_of_length_le]) (by rw [List.getElem?_append_right (by omega), show R.length + k - R.length = k by omega]; exact g2) (by rw [List.getElem?_append_right (by omega), show R.length + k - R.length = k by omega]; exact g3) g4, lt_at g1 g2 g3 g4]
      exact ⟨fun h => .inr ⟨rfl, h⟩, fun h => by rcases h with h | h; exact absurd h lt_irr; exact h.2⟩
  · obtain ⟨k, a, b, g1, g2, g3, g4⟩ := first_diff h1 hR
    have l1 := (List.getElem?_eq_some_iff.1 g2).1
    have l2 := (List.getElem?_eq_some_iff.1 g3).1
    rw [lt_at (k := k) (a := a) (b := b) (by rw [List.take_append_of_le_length (by omega), List.take_append_of_le_length (by omega)]; exact g1) (by rw [List.getElem?_append_left l1]; exact g2) (by rw [List.getElem?_append_left l2]; exact g3) g4, lt_at g1 g2 g3 g4]
    exact ⟨.inl, fun h => by rcases h with h | h; exact h; exact absurd h.1 hR⟩
def Rs (f g : Nat → Nat) (n s : Nat) : List Int := PL n (rn (es f g n s) (ei f g n s) f)
def Us (f g : Nat → Nat) (n s : Nat) : List Int := PL n (rn (es f g n s) (ei f g n s) g)
def Bf (f g : Nat → Nat) (n s t : Nat) : Prop := Lt (Rs f g n s ++ Us f g n s) (Rs f g n t ++ Us f g n t)
open Classical in
noncomputable def bst (f g : Nat → Nat) (n : Nat) : Nat → Nat
  | 0 => 0
  | i + 1 => if Bf f g n i (bst f g n i) then i else bst f g n i
open Classical in
theorem bst_yes {f g : Nat → Nat} {n i : Nat} (h : Bf f g n i (bst f g n i)) : bst f g n (i + 1) = i := by
  show (if _ then _ else _) = _
  rw [if_pos h]
open Classical in
theorem bst_no {f g : Nat → Nat} {n i : Nat} (h : ¬ Bf f g n i (bst f g n i)) : bst f g n (i + 1) = bst f g n i := by
  show (if _ then _ else _) = _
  rw [if_neg h]
theorem bst_one {f g : Nat → Nat} {n : Nat} : bst f g n 1 = 0 := bst_no lt_irr
theorem bst_lt {f g : Nat → Nat} {n : Nat} (h0 : 0 < n) : ∀ i, i ≤ n → bst f g n i < n
  | 0, _ => h0
  | i + 1, hi => by
    by_cases h : Bf f g n i (bst f g n i)
    · rw [bst_yes h]; omega
    · rw [bst_no h]; exact bst_lt h0 i (by omega)
theorem Rs_len {f g : Nat → Nat} {n s : Nat} : (Rs f g n s).length = n := PL_len
theorem Us_len {f g : Nat → Nat} {n s : Nat} : (Us f g n s).length = n := PL_len
theorem Rs_ne {f g : Nat → Nat} {n s : Nat} (h : 0 < n) : Rs f g n s ≠ [] := fun e => by
  have := Rs_len (f := f) (g := g) (n := n) (s := s)
  rw [e] at this
  simp at this
  omega
end Go.PI
/- ISOMORPHIC ORIGAMIS have the same label. -/
namespace Go.PI
set_option maxRecDepth 10000
set_option maxHeartbeats 4000000
structure Isom (n : Nat) (f g F G e : Nat → Nat) : Prop where
  lt : ∀ x, x < n → e x < n
  inj : ∀ x y, x < n → y < n → e x = e y → x = y
  f : ∀ x, x < n → F (e x) = e (f x)
  g : ∀ x, x < n → G (e x) = e (g x)
section
variable {n : Nat} {f f' g g' F F' G G' e : Nat → Nat}
theorem addL_map (hi : ∀ x y, x < n → y < n → e x = e y → x = y) {xs : List Nat} {x : Nat} (hx : x < n) (hxs : ∀ y ∈ xs, y < n) : addL (xs.map e) (e x) = (addL xs x).map e := by
  unfold addL
  by_cases h : x ∈ xs
  · rw [if_pos h, if_pos (List.mem_map.2 ⟨x, h, rfl⟩)]
  · rw [if_neg h, if_neg fun hm => ?_]
    · simp
    · obtain ⟨y, hy, e2⟩ := List.mem_map.1 hm
      exact h (hi _ _ (hxs y hy) hx e2 ▸ hy)
theorem Isom.bfs (h : Isom n f g F G e) (pf : IsP n f f') (pg : IsP n g g') {s : Nat} (hs : s < n) : ∀ k, PI.bfs F G (e s) k = (PI.bfs f g s k).map e
  | 0 => rfl
  | k + 1 => by
    show nxt F G (PI.bfs F G (e s) k) k = (nxt f g (PI.bfs f g s k) k).map e
    rw [h.bfs pf pg hs k]
    unfold nxt
    rw [List.getElem?_map]
    cases hx : (PI.bfs f g s k)[k]? with
    | none => rfl
    | some x =>
      have hlt := bfs_lt pf pg hs k
      have hxn := hlt x (List.mem_of_getElem? hx)
      simp only [Option.map_some]
      rw [h.f x hxn, h.g x hxn, addL_map h.inj (pf.lt x hxn) hlt, addL_map h.inj (pg.lt x hxn) fun y hy => ?_]
      rcases addL_mem.1 hy with hy | rfl
      · exact hlt y hy
      · exact pf.lt x hxn
theorem idxOf_map (hi : ∀ x y, x < n → y < n → e x = e y → x = y) {x : Nat} (hx : x < n) : ∀ {xs : List Nat}, (∀ y ∈ xs, y < n) → (xs.map e).idxOf (e x) = xs.idxOf x
  | [], _ => rfl
  | y :: xs, h => by
    have hy := h y (by simp)
    have ih := idxOf_map hi hx (xs := xs) fun z hz => h z (by simp [hz])
    rw [List.map_cons, List.idxOf_cons, List.idxOf_cons, ih]
    by_cases e2 : y = x
    · subst e2; simp
    · have h3 : e y ≠ e x := fun e3 => e2 (hi _ _ hy hx e3)
      rw [beq_false_of_ne h3, beq_false_of_ne e2]
theorem Isom.rch (h : Isom n f g F G e) (pf : IsP n f f') (pg : IsP n g g') {s y : Nat} (hs : s < n) (hy : Rch f g s y) : Rch F G (e s) (e y) := by
  induction hy with
  | refl => exact .refl
  | f hz ih => rw [← h.f _ (rch_lt pf pg hs hz)]; exact .f ih
  | g hz ih => rw [← h.g _ (rch_lt pf pg hs hz)]; exact .g ih
theorem Isom.onto (h : Isom n f g F G e) {y : Nat} (hy : y < n) : ∃ x, x < n ∧ e x = y := by
  refine Classical.byContradiction fun hc => ?_
  have := len_le_of (l := y :: (List.range n).map e) (m := List.range n) (List.nodup_cons.2 ⟨fun hm => ?_, ?_⟩) fun z hz => ?_
  · simp at this
    omega
  · obtain ⟨x, hx, e2⟩ := List.mem_map.1 hm
    exact hc ⟨x, List.mem_range.1 hx, e2⟩
  · unfold List.Nodup
    rw [List.pairwise_map]
    refine List.Pairwise.imp_of_mem (R := fun a b => a < b) (fun {a b} ha hb hlt e2 => ?_) List.pairwise_lt_range
    have := h.inj a b (List.mem_range.1 ha) (List.mem_range.1 hb) e2
    omega
  · rcases List.mem_cons.1 hz with rfl | hz
    · exact List.mem_range.2 hy
    · obtain ⟨x, hx, rfl⟩ := List.mem_map.1 hz
      exact List.mem_range.2 (h.lt x (List.mem_range.1 hx))
theorem Isom.conn (h : Isom n f g F G e) (pf : IsP n f f') (pg : IsP n g g') (h0 : 0 < n) (hc : Conn n f g) : Conn n F G := fun y hy => by
  obtain ⟨x, hx, rfl⟩ := h.onto hy
  obtain ⟨z, hz, ez⟩ := h.onto h0
  have a := h.rch pf pg hz (((hc z hz).symm pf pg h0).trans (hc x hx))
  rwa [ez] at a
theorem Isom.rows (h : Isom n f g F G e) (pf : IsP n f f') (pg : IsP n g g') (h0 : 0 < n) (hc : Conn n f g) {s : Nat} (hs : s < n) : Rs F G n (e s) = Rs f g n s ∧ Us F G n (e s) = Us f g n s := by
  have hb := h.bfs pf pg hs n
  have hlt := bfs_lt pf pg hs n
  have he : ∀ k, k < n → es F G n (e s) k = e (es f g n s k) := fun k hk => by
    unfold es
    rw [hb, List.getD_eq_getElem?_getD, List.getD_eq_getElem?_getD, List.getElem?_map, es_get pf pg h0 hs hc hk]
    rfl
  have hi : ∀ x, x < n → ei F G n (e s) (e x) = ei f g n s x := fun x hx => by
    unfold ei
    rw [hb]
    exact idxOf_map h.inj hx hlt
  have hp := es_perm pf pg h0 hs hc
  constructor
  · refine PL_eq fun k hk => ?_
    unfold rn
    have hk2 := hp.lt k hk
    rw [he k hk, h.f _ hk2, hi _ (pf.lt _ hk2)]
  · refine PL_eq fun k hk => ?_
    unfold rn
    have hk2 := hp.lt k hk
    rw [he k hk, h.g _ hk2, hi _ (pg.lt _ hk2)]
theorem lt_trans {xs ys zs : List Int} (h : Lt xs ys) (k : Lt ys zs) : Lt xs zs := by
  obtain ⟨i, a, b, h1, h2, h3, h4⟩ := h
  obtain ⟨j, c, d, k1, k2, k3, k4⟩ := k
  rcases Nat.lt_trichotomy i j with e | e | e
  · refine ⟨i, a, b, ?_, h2, ?_, h4⟩
    · rw [h1]
      have := congrArg (List.take i) k1
      rwa [List.take_take, List.take_take, Nat.min_eq_left (by omega)] at this
    · rw [← take_get k1 e]; exact h3
  · subst e
    rw [h3] at k2
    have := Option.some.inj k2
    exact ⟨i, a, d, h1.trans k1, h2, k3, by omega⟩
  · refine ⟨j, c, d, ?_, ?_, k3, k4⟩
    · rw [← k1]
      have := congrArg (List.take j) h1
      rwa [List.take_take, List.take_take, Nat.min_eq_left (by omega)] at this
    · rw [take_get h1 e]; exact k2
theorem lt_tri {xs ys : List Int} (hl : xs.length = ys.length) (h1 : ¬ Lt xs ys) (h2 : ¬ Lt ys xs) : xs = ys := by
  refine Classical.byContradiction fun hne => ?_
  obtain ⟨k, a, b, q1, q2, q3, q4⟩ := first_diff hl hne
  rcases Int.lt_trichotomy a b with e | e | e
  · exact h1 ⟨k, a, b, q1, q2, q3, e⟩
  · exact q4 e
  · exact h2 ⟨k, b, a, q1.symm, q3, q2, e⟩
theorem bst_min : ∀ (i : Nat), ∀ s, s < i → ¬ Bf f g n s (bst f g n i)
  | 0, s, hs => by omega
  | i + 1, s, hs => by
    by_cases h : Bf f g n i (bst f g n i)
    · rw [bst_yes h]
      by_cases e : s = i
      · subst e; exact lt_irr
      · intro hb
        exact bst_min i s (by omega) (lt_trans hb h)
    · rw [bst_no h]
      by_cases e : s = i
      · subst e; exact h
      · exact bst_min i s (by omega)
theorem Isom.label (h : Isom n f g F G e) (pf : IsP n f f') (pg : IsP n g g') (h0 : 0 < n) (hc : Conn n f g) :
    Rs F G n (bst F G n n) = Rs f g n (bst f g n n) ∧ Us F G n (bst F G n n) = Us f g n (bst f g n n) := by
  have b1 := bst_lt (f := f) (g := g) h0 n (Nat.le_refl _)
  have b2 := bst_lt (f := F) (g := G) h0 n (Nat.le_refl _)
  obtain ⟨x, hx, ex⟩ := h.onto b2
  have r1 := h.rows pf pg h0 hc hx
  have r2 := h.rows pf pg h0 hc b1
  have m1 := bst_min (f := f) (g := g) (n := n) n x hx
  have m2 := bst_min (f := F) (g := G) (n := n) n (e (bst f g n n)) (h.lt _ b1)
  unfold Bf at m1 m2
  rw [r2.1, r2.2] at m2
  rw [ex] at r1
  rw [r1.1, r1.2] at m2 ⊢
  have := lt_tri (xs := Rs f g n x ++ Us f g n x) (ys := Rs f g n (bst f g n n) ++ Us f g n (bst f g n n)) (by simp [Rs_len, Us_len]) m1 m2
  exact List.append_inj this (by simp [Rs_len])
end
end Go.PI
