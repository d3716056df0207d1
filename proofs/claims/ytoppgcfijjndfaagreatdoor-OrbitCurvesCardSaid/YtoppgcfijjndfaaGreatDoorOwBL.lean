/- Own work of the verifier: OcArg. -/
import Derived.Test.YtoppgcfijjndfaaGreatDoorOwBG
import Derived.Test.YtoppgcfijjndfaaGreatDoorOwBI
import Derived.Test.YtoppgcfijjndfaaGreatDoorOwBK
set_option linter.all false
set_option exponentiation.threshold 3000
set_option linter.deprecated false
/- THE ARGUMENTS OF OrbitChecks, AND ITS CALLS. -/
open Go.Proofs
namespace Go.PI
open Go.ChangeShapes Go.WideShapes Go.ChangeAt Go.RowKit
open IM
set_option maxRecDepth 100000
set_option maxHeartbeats 4000000
theorem nc54 : Tryz.prog.cellsOf 54 = 1 := by kernel_rfl
theorem nc56 : Tryz.prog.cellsOf 56 = 3 := by kernel_rfl
theorem nc43x : Tryz.prog.cellsOf 43 = 1 := by kernel_rfl
section
variable {H : Type} {enc : TypeId × Value → H} {W : World}
theorem imp_many {μ : M} {Hp : Heap} (h : Imp W μ Hp) {f : Nat → Value} : ∀ m : Nat, Hp.n + m + 4 < lim → (∀ r, r < m → ∃ (fuel : Nat) (y : DataW H × List MemPlace), DataW.trod enc Tryz.prog W 0 (fun _ => true) true fuel 43 [f r] = some y) →
    ∃ (μ' : M) (H' : Heap) (vs : List AV) (xss : List (List Int)), Imp W μ' H' ∧ M.le μ μ' ∧ (∀ B, B < Hp.n → H'.get B = Hp.get B) ∧ Hp.n ≤ H'.n ∧ H'.n ≤ Hp.n + m ∧ VRs μ' vs ((List.range m).map f) ∧ All2 (RelC H' fun _ => False) (xss.map pIs) vs ∧ xss.length = m
  | 0, hn, _ => ⟨μ, Hp, [], [], h, M.le.refl _, fun _ _ => rfl, Nat.le_refl _, Nat.le_refl _, .nil, .nil, rfl⟩
  | m + 1, hn, hf => by
    obtain ⟨μ1, H1, vs, xss, i1, le1, k1, n1, m1, v1, r1, l1⟩ := imp_many h m (by omega) fun r hr => hf r (by omega)
    obtain ⟨fuel, y, hy⟩ := hf m (by omega)
    obtain ⟨μ2, H2, b, ys, i2, le2, k2, n2, m2, vb, sb, cb⟩ := imp_intsF i1 (by omega) hy
    refine ⟨μ2, H2, vs ++ [b], xss ++ [ys], i2, le1.trans le2, fun B hB => by rw [k2 B (by omega), k1 B hB], by omega, by omega, ?_, ?_, by simp [l1]⟩
    · rw [List.range_succ, List.map_append]
      exact All2.append (All2.mono' (fun _ _ h => h.mono le2) v1) (.cons vb .nil)
    · rw [List.map_append]
      exact All2.append (All2.mono' (fun _ _ h => rel_up h k2) r1) (.cons (rel_of_sl sb cb) .nil)
def prs (xss : List (List Int)) : Nat → OL
  | 0 => []
  | n + 1 => prs xss n ++ [(xss.getD (2 * n) [], xss.getD (2 * n + 1) [])]
theorem prs_len {xss : List (List Int)} : ∀ n, (prs xss n).length = n
  | 0 => rfl
  | n + 1 => by simp [prs, prs_len n]
theorem flO_app {A B : OL} : flO (A ++ B) = flO A ++ flO B := by simp [flO]
theorem prs_fl {xss : List (List Int)} : ∀ n, 2 * n ≤ xss.length → flO (prs xss n) = (xss.take (2 * n)).map pIs
  | 0, _ => rfl
  | n + 1, h => by
    have e0 : xss[2 * n]? = some (xss.getD (2 * n) []) := by rw [List.getD_eq_getElem?_getD, List.getElem?_eq_getElem (by omega)]; rfl
    have e1 : xss[2 * n + 1]? = some (xss.getD (2 * n + 1) []) := by rw [List.getD_eq_getElem?_getD, List.getElem?_eq_getElem (by omega)]; rfl
    show flO (prs xss n ++ [_]) = _
    rw [flO_app, prs_fl n (by omega), show 2 * (n + 1) = 2 * n + 1 + 1 by omega, List.take_add_one, e1, List.take_add_one, e0]
    simp [flO]
theorem imp_os {μ : M} {Hp : Heap} (h : Imp W μ Hp) (hn : Hp.n + 100 < lim) {fuel : Nat} {v : Value} {y : DataW H × List MemPlace}
    (h1 : DataW.trod enc Tryz.prog W 0 (fun _ => true) true fuel 54 [v] = some y) :
    ∃ (μ' : M) (H' : Heap) (b : AV) (p : PV), Imp W μ' H' ∧ M.le μ μ' ∧ (∀ B, B < Hp.n → H'.get B = Hp.get B) ∧ Hp.n ≤ H'.n ∧ H'.n ≤ Hp.n + 70 ∧ VR μ' b v ∧ RelC H' (fun _ => False) p b ∧ ((∃ L : OL, p = pOs L) ∨ ∃ n : Nat, p = .lst n [] ∧ 30 < n ∧ n < 9223372036854775808) := by
  have hmx : maxLen = 9223372036854775807 := rfl
  rcases DataW.trod_slice Tryz.underlying54 h1 with ⟨hcs, -⟩ | ⟨a, len, cap, elems, rest, n, -, hcs, -, -, hl, hm, hel, hc, -, -⟩
  · obtain rfl : v = .slice none 0 0 := by simpa using hcs
    exact ⟨μ, Hp, .nils, pOs [], h, M.le.refl _, fun _ _ => rfl, Nat.le_refl _, by omega, .nils, .lnil, .inl ⟨[], rfl⟩⟩
  · obtain rfl : v = .slice (some a) len cap := by simpa using hcs
    rw [nc45] at hc
    have two : ∀ i, i < len → ∃ v0 v1 : Value, W.cell? (a.add (2 * i)) = some v0 ∧ W.cell? (a.add (2 * i + 1)) = some v1 ∧ (∃ (fuel : Nat) (y : DataW H × List MemPlace), DataW.trod enc Tryz.prog W 0 (fun _ => true) true fuel 43 [v0] = some y) ∧ ∃ (fuel : Nat) (y : DataW H × List MemPlace), DataW.trod enc Tryz.prog W 0 (fun _ => true) true fuel 43 [v1] = some y := fun i hi => by
      have e := hc i hi
      rw [List.getElem?_eq_getElem (by omega), Option.bind_eq_some_iff] at e
      obtain ⟨cs, e1, e2⟩ := e
      obtain ⟨y0, y1, m, hlen, t0, t1⟩ := rows_struct Tryz.underlying45 e2
      rw [nc45] at hlen
      obtain ⟨v0, v1, hcs⟩ : ∃ v0 v1, cs = [v0, v1] := by
        match cs, hlen with
        | [a, b], _ => exact ⟨a, b, rfl⟩
      subst hcs
      simp only [nc43x, List.drop, List.take] at t0 t1
      obtain ⟨-, -, hcell⟩ := World.cells?_some e1
      refine ⟨v0, v1, ?_, ?_, ⟨_, _, t0⟩, ⟨_, _, t1⟩⟩
      · have := hcell 0 (by omega)
        rw [Addr.add_add] at this
        rw [show 2 * i = i * 2 + 0 by omega]
        exact this
      · have := hcell 1 (by omega)
        rw [Addr.add_add] at this
        rw [show 2 * i + 1 = i * 2 + 1 by omega]
        exact this
    have one : ∀ r, r < 2 * len → ∃ v : Value, W.cell? (a.add r) = some v ∧ ∃ (fuel : Nat) (y : DataW H × List MemPlace), DataW.trod enc Tryz.prog W 0 (fun _ => true) true fuel 43 [v] = some y := fun r hr => by
      obtain ⟨v0, v1, c0, c1, t0, t1⟩ := two (r / 2) (by omega)
      rcases Nat.mod_two_eq_zero_or_one r with e | e
      · rw [show 2 * (r / 2) = r by omega] at c0
        exact ⟨v0, c0, t0⟩
      · rw [show 2 * (r / 2) + 1 = r by omega] at c1
        exact ⟨v1, c1, t1⟩
    obtain ⟨f, hf⟩ : ∃ f : Nat → Value, f = fun r => (W.cell? (a.add r)).getD (.bool false) := ⟨_, rfl⟩
    have hfc : ∀ r, r < 2 * len → W.cell? (a.add r) = some (f r) ∧ ∃ (fuel : Nat) (y : DataW H × List MemPlace), DataW.trod enc Tryz.prog W 0 (fun _ => true) true fuel 43 [f r] = some y := fun r hr => by
      obtain ⟨v, h1, h2⟩ := one r hr
      have : f r = v := by rw [hf]; show (W.cell? (a.add r)).getD _ = v; rw [h1]; rfl
      rw [this]
      exact ⟨h1, h2⟩
    clear hf one two hc
    by_cases hL : len = 0
    · subst hL
      exact ⟨μ, Hp, .sle, pOs [], h, M.le.refl _, fun _ _ => rfl, Nat.le_refl _, by omega, .sle _ _, .lsle, .inl ⟨[], rfl⟩⟩
    have ha := cell_zero (hfc 0 (by omega)).1
    have hc' : ∀ c, c < 2 * len → W.cell? (Addr.add ⟨a.block, a.off, none⟩ c) = some (f c) := fun c hcl => by rw [← ha]; exact (hfc c hcl).1
    obtain ⟨carr, ty, fz, hb, -⟩ := cell_row (hc' 0 (by omega))
    have hlt : a.block < W.heap.size := by
      rcases Nat.lt_or_ge a.block W.heap.size with h1 | h1
      · exact h1
      · rw [Array.getElem?_eq_none h1] at hb; cases hb
    have hcells : ∀ c, c < 2 * len → carr[a.off + c]? = some (f c) := fun c hcl => by
      obtain ⟨carr2, ty2, fz2, hb2, hv⟩ := cell_row (hc' c hcl)
      rw [hb] at hb2
      cases hb2
      exact hv
    have hsz : a.off + 2 * len ≤ carr.size := by
      have := hcells (2 * len - 1) (by omega)
      have := (Array.getElem?_eq_some_iff.1 this).1
      omega
    have fin : ∀ (μ1 : M) (H1 : Heap) (vs : List AV) (k : Nat), Imp W μ1 H1 → M.le μ μ1 → (∀ B, B < Hp.n → H1.get B = Hp.get B) → Hp.n ≤ H1.n → H1.n ≤ Hp.n + 60 → vs.length = k → k ≤ 2 * len → VRs μ1 vs ((List.range k).map f) →
        ∃ (μ' : M) (H' : Heap) (cs : List AV), Imp W μ' H' ∧ M.le μ μ' ∧ (∀ B, B < Hp.n → H'.get B = Hp.get B) ∧ Hp.n ≤ H'.n ∧ H'.n ≤ Hp.n + 70 ∧ VR μ' (.sl H1.n a.off len cap) (.slice (some a) len cap) ∧ H'.get H1.n = .cells false ty cs ∧ (∀ B, B < H1.n → H'.get B = H1.get B) ∧ cs.length = a.off + k ∧ (cs.drop a.off).take k = vs := fun μ1 H1 vs k g1 g2 g3 g4 g5 hvl hk g6 => by
      have hn1 : H1.n < lim := by omega
      have hp := fun b => Heap.get_push (H := H1) (b := b) hn1
      obtain ⟨cs, hcs⟩ : ∃ cs, cs = (carr.toList.take a.off).map AV.raw ++ vs := ⟨_, rfl⟩
      have hcl : cs.length = a.off + k := by rw [hcs, List.length_append, List.length_map, List.length_take, hvl, Array.length_toList]; omega
      have hvs : ∀ ν : M, M.le μ1 ν → VRs ν cs (carr.toList.take cs.length) := fun ν hν => by
        rw [hcl, hcs]
        have e : carr.toList.take (a.off + k) = carr.toList.take a.off ++ (carr.toList.drop a.off).take k := by rw [List.take_add]
        rw [e]
        refine All2.append (anys ν _) ?_
        have e2 : (carr.toList.drop a.off).take k = (List.range k).map f := by
          apply List.ext_getElem?
          intro i
          by_cases hi : i < k
          · rw [List.getElem?_take, if_pos hi, List.getElem?_drop, Array.getElem?_toList, hcells i (by omega), List.getElem?_map, List.getElem?_range hi]
            rfl
          · rw [List.getElem?_take, if_neg hi, List.getElem?_eq_none (by simp; omega)]
        rw [e2]
        exact g6.mono hν
      obtain ⟨p1, p2⟩ := g1.push hn1 (bi := ⟨a.block, carr.size, 0⟩) (b := .cells false ty cs) rfl (fun _ => ⟨hlt, blk0 rfl ⟨carr, fz, hb, rfl, by omega, hvs _ (M.le_set (g1.hr.dom _ (Nat.le_refl _))), fun e => by cases e⟩⟩)
      refine ⟨_, _, cs, p1, g2.trans p2, fun B hB => by rw [hp, if_neg (by omega)]; exact g3 B hB, by show Hp.n ≤ H1.n + 1; omega, by show H1.n + 1 ≤ Hp.n + 70; omega, ?_, by rw [hp, if_pos rfl], fun B hB => by rw [hp, if_neg (by omega)], hcl, ?_⟩
      · rw [ha]
        exact VR.sl0 (M.set_self _ _ _)
      · rw [hcs, List.drop_append, List.drop_of_length_le (by simp; omega), List.length_map, List.length_take, Array.length_toList, Nat.min_eq_left (show a.off ≤ carr.size by omega), Nat.sub_self, List.drop_zero, List.nil_append, List.take_of_length_le (l := vs) (by omega)]
    by_cases hbig : len ≤ 30
    · obtain ⟨μ1, H1, vs, xss, i1, le1, k1, n1, m1, v1, r1, l1⟩ := imp_many h (f := f) (2 * len) (by omega) fun r hr => (hfc r hr).2
      have hvl : vs.length = 2 * len := by have := v1.length; simpa using this
      obtain ⟨μ', H', cs, p1, p2, p3, p4, p5, p6, p7, p8, p9, p10⟩ := fin μ1 H1 vs (2 * len) i1 le1 k1 n1 (by omega) hvl (Nat.le_refl _) v1
      have hfl := prs_fl (xss := xss) len (by omega)
      rw [List.take_of_length_le (by omega)] at hfl
      refine ⟨μ', H', _, pOs (prs xss len), p1, p2, p3, p4, p5, p6, ?_, .inl ⟨_, rfl⟩⟩
      unfold pOs
      rw [prs_len, hfl]
      refine .sl (fun h => h) p7 (by rw [List.length_map]; omega) hl ?_
      rw [List.length_map, l1, p10]
      exact All2.mono' (fun _ _ h => rel_up h p8) r1
    · obtain ⟨μ', H', cs, p1, p2, p3, p4, p5, p6, p7, p8, p9, p10⟩ := fin μ Hp [] 0 h (M.le.refl _) (fun _ _ => rfl) (Nat.le_refl _) (by omega) rfl (by omega) .nil
      refine ⟨μ', H', _, .lst len [], p1, p2, p3, p4, p5, p6, ?_, .inr ⟨len, rfl, by omega, by omega⟩⟩
      exact .sl (fun h => h) p7 (by show a.off + 0 ≤ _; omega) hl (by show All2 _ [] ((cs.drop a.off).take 0); rw [List.take_zero]; exact .nil)
theorem law_callsQ {μ : M} {H : Heap} {f : FuncId} {c : FI} (hf : ctxQ.fn f = some c) (i : Imp W μ H) {args : Array Value} {avs : List AV} {ps : List PV} {d : Nat} (hv : VRs μ avs args.toList) (hr : All2 (RelC H fun _ => False) ps avs) (hd : H.n + d < lim)
    (hct : Ct ctxQ f ps d fun r => r = .bool true) : Calls Tryz.prog f args W fun e w' => e = .returned (.bool true) ∧ Below W.heap.size W w' := by
  have law : Cl ctxQ f avs H fun r _ => r = .bool true := by
    refine (hct H (fun _ => False) avs (fun b h => h.elim) hr hd).mono ?_
    rintro r H' ⟨q, rfl, hq, -⟩
    cases hq
    rfl
  obtain ⟨k, r, H', hc, rfl⟩ := law
  have hC := ctxQ_fine
  rcases callF_sim hC (sound hC k) hc (args := args) hv i.hr with ⟨u, w', hrun, -⟩ | ⟨-, hcalls⟩
  · exfalso
    obtain ⟨fn', f1, f2, f3, f4, f5⟩ := hC.fn f _ hf
    have f5' : ¬ fn'.name = "runtime.NumGoroutine" := by simpa using f5
    simp [callFunc, f1, f5', f4] at hrun
  · have hw : Calls Tryz.prog f args W fun e w' => ∃ u, e = .returned u ∧ EffR μ H W (.bool true) H' u w' := callsIn_wide.1 (hcalls Fence.wide 0 ⟨fun _ => trivial, rfl, rfl⟩)
    refine hw.mono ?_
    rintro e w' ⟨u, rfl, hE⟩
    refine ⟨?_, below_of i.no hE⟩
    obtain ⟨μ', hv, -⟩ := hE
    rw [hv.bool_inv]
theorem rows_struct3 {P : Program} {w : World} {base : Nat} {spare : Nat → Bool} {held : Bool} {t : TypeId} {f0 f1 f2 : Field} {fuel : Nat} {cs : List Value} {x : DataW H × List MemPlace} (ht : P.underlying t = some (.struct #[f0, f1, f2])) (h : DataW.trod enc P w base spare held fuel t cs = some x) :
    ∃ y0 y1 y2 n, cs.length = P.cellsOf t ∧ DataW.trod enc P w base spare held n f0.type ((cs.drop f0.offset).take (P.cellsOf f0.type)) = some y0 ∧ DataW.trod enc P w base spare held n f1.type ((cs.drop f1.offset).take (P.cellsOf f1.type)) = some y1 ∧ DataW.trod enc P w base spare held n f2.type ((cs.drop f2.offset).take (P.cellsOf f2.type)) = some y2 := by
  obtain ⟨xs, n, _, rfl, hl, hlen, hf⟩ := DataW.trod_struct ht h
  match xs, hlen with
  | [y0, y1, y2], _ => exact ⟨y0, y1, y2, n, hl, by simpa using hf 0 f0 rfl, by simpa using hf 1 f1 rfl, by simpa using hf 2 f2 rfl⟩
end
end Go.PI
