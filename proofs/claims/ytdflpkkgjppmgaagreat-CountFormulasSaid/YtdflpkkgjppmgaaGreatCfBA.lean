/- Own work of the verifier: CiCmp CiShrt. -/
import Derived.Test.YtdflpkkgjppmgaaGreatCfAZ
set_option linter.all false
set_option exponentiation.threshold 3000
set_option linter.deprecated false
/- compare. -/
open Go.Proofs
namespace Go.PI
open IM
set_option maxRecDepth 10000
set_option maxHeartbeats 1000000
variable (S : FuncId → Option (List AV → Heap → Option (AV × Heap)))
abbrev cmpH (H : Heap) (y : AV) : Heap := (H.push (.cells true 22 y.cells)).push (.cells true 3 [iv 0])
theorem cmpH_get {H : Heap} {y : AV} (hn : H.n + 4 < lim) (hy : y.cells = [y]) : (∀ A, A < H.n → (cmpH H y).get A = H.get A) ∧ (cmpH H y).get H.n = .cells true 22 [y] ∧ (cmpH H y).get (H.n + 1) = .cells true 3 [iv 0] ∧ (cmpH H y).n = H.n + 2 := by
  have hp := Heap.get_push (H := H) (b := .cells true 22 y.cells) (by omega)
  have hpn : (H.push (.cells true 22 y.cells)).n = H.n + 1 := rfl
  have hq := Heap.get_push (H := H.push (.cells true 22 y.cells)) (b := .cells true 3 [iv 0]) (by omega)
  refine ⟨fun A hA => ?_, ?_, ?_, rfl⟩
  · rw [hq, hpn, if_neg (by omega), hp, if_neg (by omega)]
  · rw [hq, hpn, if_neg (by omega), hp, if_pos rfl, hy]
  · rw [hq, hpn, if_pos rfl]
theorem compare_run (h188 : S 188 = none) (h183 : S 183 = none) (h203 : S 203 = none) (h201 : S 201 = none) (h204 : S 204 = none) (h210 : S 210 = none) {H : Heap} {x y : AV} {xs ys : List Int} (hn : H.n + 20 < lim) (hx : Sl H x xs) (hy : Sl H y ys)
    (hxl : xs.length ≤ 1000000) (hyl : ys.length ≤ 1000000) (nx : Nrm xs) (ny : Nrm ys) : Cl (ctx.plus S) 188 [x, y] H fun r H' => r = iv (cmpI (val xs) (val ys)) ∧ Kp H H' 10 := by
  refine cl_of h188 fn188 ?_
  have hT : (ctx.plus S).ty = tget := rfl
  obtain ⟨g0, g1, g2, g3⟩ := cmpH_get (H := H) (y := y) (by omega) hy.cells.1
  have hx1 : Sl (cmpH H y) x xs := hx.mono g0
  have hy1 : Sl (cmpH H y) y ys := hy.mono g0
  have hys := hy.same
  have fin : ∀ {H' : Heap} {n : Int}, Upd (cmpH H y) (H.n + 1) (.cells true 3 [iv n]) H' → n = cmpI (val xs) (val ys) → ∃ v, loadE (ctx.plus S) 3 (.ptr (H.n + 1) 0) H' = some v ∧ (v = iv (cmpI (val xs) (val ys)) ∧ Kp H H' 10) := by
    intro H' n hU e
    subst e
    have := hU.n
    exact ⟨_, load_var hT hU.at_, rfl, by omega, by omega, fun A hA => by rw [hU.other A (by omega)]; exact g0 A hA⟩
  have sg1 : sgnL xs = 0 ∨ sgnL xs = 1 ∨ sgnL xs = -1 := by rcases sgn_cases xs with h | h | h <;> omega
  refine ⟨by omega, by show H.n + 1 < lim; omega, ?_⟩
  refine (sign_run S h183 (H := cmpH H y) (v := x) (by omega) hx1).mono ?_
  rintro _ _ ⟨rfl, rfl⟩
  refine ⟨_, load_slv hT g1, ?_⟩
  refine (sign_run S h183 (H := cmpH H y) (v := y) (by omega) hy1).mono ?_
  rintro _ _ ⟨rfl, rfl⟩
  refine ⟨fun hne => ?_, fun heq => ?_⟩
  · refine ⟨draw_of2 (cmpH H y) 5 (by kernel_rfl) rfl ?_ ?_ ?_, ?_⟩
    · exact ⟨trivial, trivial, ⟨_, _, _, rfl, by omega, load_slv hT g1, hys⟩, trivial, trivial, trivial⟩
    · repeat' (first | exact trivial | refine ⟨fun _ _ => rfl, ?_⟩)
    · repeat' (first | exact trivial | refine ⟨Nat.le_refl _, ?_⟩)
    refine (sign_run S h183 (H := cmpH H y) (v := x) (by omega) hx1).mono ?_
    rintro _ _ ⟨rfl, rfl⟩
    refine ⟨_, load_slv hT g1, ?_⟩
    refine (sign_run S h183 (H := cmpH H y) (v := y) (by omega) hy1).mono ?_
    rintro _ _ ⟨rfl, rfl⟩
    refine (cmpInt_run S h203 h201).mono ?_
    rintro _ _ ⟨rfl, rfl⟩
    refine ⟨_, store_var hT g2, ?_⟩
    have hU := upd_set (H := cmpH H y) (b := H.n + 1) (x := .cells true 3 [iv (cmpI (sgnL xs) (sgnL ys))]) (by omega) (by omega)
    refine ⟨draw_of2 (cmpH H y) 5 (by kernel_rfl) rfl ?_ ?_ ?_, ?_⟩
    · exact ⟨trivial, trivial, ⟨_, _, _, rfl, by omega, load_slv hT g1, hys⟩, trivial, trivial, trivial, trivial⟩
    · repeat' (first | exact trivial | refine ⟨fun _ _ => rfl, ?_⟩ | refine ⟨trivial, ?_⟩)
    · repeat' (first | exact trivial | refine ⟨Nat.le_refl _, ?_⟩)
    exact fin hU (cmp_sgn nx ny hne)
  · refine ⟨draw_of2 (cmpH H y) 5 (by kernel_rfl) rfl ?_ ?_ ?_, ?_⟩
    · exact ⟨trivial, trivial, ⟨_, _, _, rfl, by omega, load_slv hT g1, hys⟩, trivial, trivial, trivial⟩
    · repeat' (first | exact trivial | refine ⟨fun _ _ => rfl, ?_⟩)
    · repeat' (first | exact trivial | refine ⟨Nat.le_refl _, ?_⟩)
    refine ⟨_, len_sl hT (v := x) rfl hx, ?_⟩
    refine ⟨_, load_slv hT g1, ?_⟩
    refine ⟨_, len_sl hT (v := y) rfl hy, ?_⟩
    refine ⟨fun hln => ?_, fun hln => ?_⟩
    · refine ⟨_, len_sl hT (v := x) rfl hx, ?_⟩
      refine ⟨_, load_slv hT g1, ?_⟩
      refine ⟨_, len_sl hT (v := y) rfl hy, ?_⟩
      refine (cmpInt_run S h203 h201).mono ?_
      rintro _ _ ⟨rfl, rfl⟩
      refine (sign_run S h183 (H := cmpH H y) (v := x) (by omega) hx1).mono ?_
      rintro _ _ ⟨rfl, rfl⟩
      have hb : cmpI xs.length ys.length = 0 ∨ cmpI xs.length ys.length = 1 ∨ cmpI xs.length ys.length = -1 := by unfold cmpI; split <;> (try split) <;> omega
      refine ⟨by rcases hb with h | h | h <;> rcases sg1 with h' | h' | h' <;> rw [h, h'] <;> (unfold In64; decide), ?_⟩
      refine ⟨_, store_var hT g2, ?_⟩
      have hU := upd_set (H := cmpH H y) (b := H.n + 1) (x := .cells true 3 [iv (cmpI xs.length ys.length * sgnL xs)]) (by omega) (by omega)
      exact fin hU (cmp_len nx ny heq (by omega))
    · have hll : xs.length = ys.length := by omega
      refine (backward_run S h204 (H := cmpH H y) (v := x) (by omega)).mono ?_
      rintro _ _ ⟨rfl, rfl⟩
      have hp1 := Heap.get_push (H := cmpH H y) (b := .cells true 22 x.cells) (by omega)
      have hpn1 : ((cmpH H y).push (.cells true 22 x.cells)).n = H.n + 3 := rfl
      rw [g3] at hp1 ⊢
      generalize (cmpH H y).push (.cells true 22 x.cells) = H2 at hp1 hpn1 ⊢
      refine range_back S h210 (b := H.n + 2) (v := x) (xs := xs) (by omega) rfl (by omega)
        (fun k H' => (∀ A, A < H.n → H'.get A = H.get A) ∧ H'.get H.n = .cells true 22 [y] ∧ H'.get (H.n + 1) = .cells true 3 [iv 0] ∧ H'.get (H.n + 2) = .cells true 22 [x] ∧ H'.get (H.n + 3) = .dfr ∧ H'.n = H.n + 5 ∧ xs.drop k = ys.drop k) ?_ ?_ ?_ ?_ ?_
      · rintro k H' ⟨a1, a2, a3, a4, a5, a6, a7⟩
        exact ⟨load_slv hT a4, hx.mono a1, by omega, by omega⟩
      · rintro k H' b H3 ⟨a1, a2, a3, a4, a5, a6, a7⟩ hV
        have := hV.n
        exact ⟨fun A hA => by rw [hV.other A (by omega)]; exact a1 A hA, by rw [hV.other _ (by omega)]; exact a2, by rw [hV.other _ (by omega)]; exact a3, by rw [hV.other _ (by omega)]; exact a4, by rw [hV.other _ (by omega)]; exact a5, by omega, a7⟩
      · intro H' b1 b2 b3
        refine ⟨fun A hA => by rw [b2 A (by omega), hp1, if_neg (by omega)]; exact g0 A hA, ?_, ?_, ?_, by rw [← b3, hpn1], by omega, ?_⟩
        · rw [b2 _ (by omega), hp1, if_neg (by omega)]; exact g1
        · rw [b2 _ (by omega), hp1, if_neg (by omega)]; exact g2
        · rw [b2 _ (by omega), hp1, if_pos rfl, hx.cells.1]
        · rw [List.drop_length, hll, List.drop_length]
      · rintro k e H' L ⟨a1, a2, a3, a4, a5, a6, a7⟩ he hL
        refine ⟨rfl, rfl, rfl, ?_⟩
        intro H3 L' hV
        have hkl := (List.getElem?_eq_some_iff.1 he).1
        obtain ⟨e', he'⟩ : ∃ e', ys[k]? = some e' := ⟨ys[k]'(by omega), List.getElem?_eq_getElem _⟩
        have hn3 := hV.n
        have c1 : ∀ A, A < H.n → H3.get A = H.get A := fun A hA => by rw [hV.other A (by omega)]; exact a1 A hA
        have c2 : H3.get H.n = .cells true 22 [y] := by rw [hV.other _ (by omega)]; exact a2
        have c3 : H3.get (H.n + 1) = .cells true 3 [iv 0] := by rw [hV.other _ (by omega)]; exact a3
        have hy3 : Sl H3 y ys := hy.mono c1
        refine ⟨_, load_slv hT c2, ?_⟩
        refine ⟨_, idx_sl hT (v := y) (n := (k : Int)) (k := k) rfl rfl hy3 rfl (by omega), ?_⟩
        refine ⟨_, load_sl hT hy3 he', ?_⟩
        refine ⟨fun hde => ?_, fun hde => ?_⟩
        · refine ⟨_, load_slv hT c2, ?_⟩
          refine ⟨_, idx_sl hT (v := y) (n := (k : Int)) (k := k) rfl rfl hy3 rfl (by omega), ?_⟩
          refine ⟨_, load_sl hT hy3 he', ?_⟩
          refine (cmpInt_run S h203 h201).mono ?_
          rintro _ _ ⟨rfl, rfl⟩
          refine ⟨_, store_var hT c3, ?_⟩
          have hW := upd_set (H := H3) (b := H.n + 1) (x := .cells true 3 [iv (cmpI e e')]) (by omega) (by omega)
          obtain ⟨H4, e4⟩ : ∃ H4, H3.set (H.n + 1) (.cells true 3 [iv (cmpI e e')]) = H4 := ⟨_, rfl⟩
          rw [e4] at hW
          have hn4 := hW.n
          refine ⟨rfl, by show (H3.set (H.n + 1) _).get _ = _; rw [e4, hW.other _ (by omega)]; exact hV.at_, by show (H3.set (H.n + 1) (.cells true 3 [iv (cmpI e e')])).n < lim; rw [e4]; omega, by show _ < (H3.set (H.n + 1) (.cells true 3 [iv (cmpI e e')])).n; rw [e4]; omega, ?_⟩
          intro H5 hX
          have hn5 : H5.n = H4.n := by rw [← e4]; exact hX.n
          have d1 : ∀ A, A ≠ H2.n + 1 → H5.get A = H4.get A := fun A hA => by rw [← e4]; exact hX.other A hA
          have hd : H5.get H2.n = .dfr := by rw [d1 _ (by omega), hW.other _ (by omega), hV.other _ (by omega), hpn1]; exact a5
          have hY := upd_set (H := H5) (b := H2.n) (x := .dead) (by omega) (by omega)
          refine ⟨H5.set H2.n .dead, by simp only [shutMarks, hd], ?_⟩
          have hl : (H5.set H2.n .dead).get (H.n + 1) = .cells true 3 [iv (cmpI e e')] := by rw [hY.other _ (by omega), d1 _ (by omega)]; exact hW.at_
          refine ⟨_, load_var hT hl, ?_⟩
          have hfin : iv (cmpI e e') = iv (cmpI (val xs) (val ys)) ∧ Kp H (H5.set H2.n .dead) 10 := ⟨by rw [cmp_dif nx ny heq he he' hde a7], by have := hY.n; omega, by have := hY.n; omega, fun A hA => by rw [hY.other A (by omega), d1 A (by omega), hW.other A (by omega)]; exact c1 A hA⟩
          exact hfin
        · refine ⟨rfl, hV.at_, ?_⟩
          refine ⟨c1, c2, c3, by show H3.get _ = _; rw [hV.other _ (by omega)]; exact a4, by show H3.get _ = _; rw [hV.other _ (by omega)]; exact a5, by show H3.n = _; omega, ?_⟩
          rw [drop_of_get he, drop_of_get he', hde, a7]
      · rintro H' H3 ⟨a1, a2, a3, a4, a5, a6, a7⟩ hV
        have hn3 := hV.n
        have hl : H3.get (H.n + 1) = .cells true 3 [iv 0] := by rw [hV.other _ (by omega)]; exact a3
        refine ⟨_, store_var hT hl, ?_⟩
        have hW := upd_set (H := H3) (b := H.n + 1) (x := .cells true 3 [iv 0]) (by omega) (by omega)
        obtain ⟨H4, e4⟩ : ∃ H4, H3.set (H.n + 1) (.cells true 3 [iv 0]) = H4 := ⟨_, rfl⟩
        rw [e4] at hW
        have hn4 := hW.n
        have hd : H4.get H2.n = .dfr := by rw [hW.other _ (by omega), hpn1, hV.other _ (by omega)]; exact a5
        have hY := upd_set (H := H4) (b := H2.n) (x := .dead) (by omega) (by omega)
        refine ⟨H4.set H2.n .dead, by (show shutMarks [H2.n] (H3.set (H.n + 1) (.cells true 3 [iv 0])) = _; rw [e4]; simp only [shutMarks, hd]), ?_⟩
        have hl : (H4.set H2.n .dead).get (H.n + 1) = .cells true 3 [iv 0] := by rw [hY.other _ (by omega)]; exact hW.at_
        refine ⟨_, load_var hT hl, ?_⟩
        have hxy : xs = ys := by simpa using a7
        have hfin : iv 0 = iv (cmpI (val xs) (val ys)) ∧ Kp H (H4.set H2.n .dead) 10 := ⟨by rw [hxy, cmpI_self], by have := hY.n; omega, by have := hY.n; omega, fun A hA => by rw [hY.other A (by omega), hW.other A (by omega), hV.other A (by omega)]; exact a1 A hA⟩
        exact hfin
end Go.PI
/- short: a list of digits divided by one element. -/
open Go.Proofs
namespace Go.PI
open IM
set_option maxRecDepth 10000
set_option maxHeartbeats 1000000
variable (S : FuncId → Option (List AV → Heap → Option (AV × Heap)))
def Cp (v : AV) : Prop :=
  match v with
  | .sl _ _ l c => l ≤ c
  | _ => True
theorem Ow.cp {H : Heap} {v : AV} {b : Nat} {zs : List Int} {l : Nat} (h : Ow H v b zs l) : Cp v := by
  obtain ⟨-, -, ⟨c, rfl, h, -⟩ | rfl⟩ := h
  · exact h
  · trivial
theorem Mine.cp {H0 H : Heap} {b0 : Nat} {v : AV} {xs : List Int} (h : Mine H0 b0 v xs H) : Cp v := by
  obtain ⟨-, -, b, zs, hO, -⟩ := h
  exact hO.cp
theorem qr {m d : Int} (hm : 0 ≤ m) (hd : 0 < d) : m.tdiv d = m / d ∧ m.tmod d = m % d ∧ d * (m / d) + m % d = m ∧ 0 ≤ m % d ∧ m % d < d ∧ 0 ≤ m / d :=
  ⟨Int.tdiv_eq_ediv_of_nonneg hm, Int.tmod_eq_emod_of_nonneg hm, Int.mul_ediv_add_emod m d, Int.emod_nonneg _ (by omega), Int.emod_lt_of_pos _ hd, Int.ediv_nonneg hm (by omega)⟩
theorem divmod_of {v d q r : Int} (h : q * d + r = v) (hr : 0 ≤ r) (hd : r < d) : v / d = q ∧ v % d = r := by
  have e : v = r + q * d := by omega
  have hd0 : d ≠ 0 := by omega
  refine ⟨?_, ?_⟩
  · rw [e, Int.add_mul_ediv_right _ _ hd0, Int.ediv_eq_zero_of_lt hr hd]; omega
  · rw [e, Int.add_mul_emod_self_right]; exact Int.emod_eq_of_lt hr hd
abbrev shH (H : Heap) (d : Int) (n : Nat) : Heap := (((H.push (.cells true 3 [iv d])).push (.cells true 22 [.nils])).push (.cells true 3 [iv 0])).push (.cells true 3 (ints (List.replicate n 0)))
theorem shH_get {H : Heap} {d : Int} {n : Nat} (hn : H.n + 6 < lim) : (∀ A, A < H.n → (shH H d n).get A = H.get A) ∧ (shH H d n).get H.n = .cells true 3 [iv d] ∧ (shH H d n).get (H.n + 1) = .cells true 22 [.nils] ∧ (shH H d n).get (H.n + 2) = .cells true 3 [iv 0] ∧ (shH H d n).get (H.n + 3) = .cells true 3 (ints (List.replicate n 0)) := by
  have h1 := Heap.get_push (H := H) (b := .cells true 3 [iv d]) (by omega)
  have n1 : (H.push (.cells true 3 [iv d])).n = H.n + 1 := rfl
  have h2 := Heap.get_push (H := H.push (.cells true 3 [iv d])) (b := .cells true 22 [.nils]) (by omega)
  have n2 : ((H.push (.cells true 3 [iv d])).push (.cells true 22 [.nils])).n = H.n + 2 := rfl
  have h3 := Heap.get_push (H := (H.push (.cells true 3 [iv d])).push (.cells true 22 [.nils])) (b := .cells true 3 [iv 0]) (by omega)
  have n3 : (((H.push (.cells true 3 [iv d])).push (.cells true 22 [.nils])).push (.cells true 3 [iv 0])).n = H.n + 3 := rfl
  have h4 := Heap.get_push (H := ((H.push (.cells true 3 [iv d])).push (.cells true 22 [.nils])).push (.cells true 3 [iv 0])) (b := .cells true 3 (ints (List.replicate n 0))) (by omega)
  rw [n1] at h2; rw [n2] at h3; rw [n3] at h4
  refine ⟨fun A hA => ?_, ?_, ?_, ?_, ?_⟩
  · rw [h4, if_neg (by omega), h3, if_neg (by omega), h2, if_neg (by omega), h1, if_neg (by omega)]
  · rw [h4, if_neg (by omega), h3, if_neg (by omega), h2, if_neg (by omega), h1, if_pos rfl]
  · rw [h4, if_neg (by omega), h3, if_neg (by omega), h2, if_pos rfl]
  · rw [h4, if_neg (by omega), h3, if_pos rfl]
  · rw [h4, if_pos rfl]
def Nw (H : Heap) (v : AV) (xs : List Int) (H' : Heap) : Prop := (v = .nils ∧ xs = [] ∧ H.n ≤ H'.n) ∨ Mine H H.n v xs H'
theorem Nw.sl {H H' : Heap} {v : AV} {xs : List Int} (h : Nw H v xs H') : Sl H' v xs := by
  rcases h with ⟨rfl, rfl, -⟩ | h
  · rfl
  · exact h.sl
theorem Nw.cp {H H' : Heap} {v : AV} {xs : List Int} (h : Nw H v xs H') : Cp v := by
  rcases h with ⟨rfl, rfl, -⟩ | h
  · trivial
  · exact h.cp
theorem Mine.lift {H H2 H3 H4 : Heap} {v : AV} {xs : List Int} {c d : Nat} (h : Mine H2 H2.n v xs H3) (k1 : Kp H H2 c) (k2 : Kp H3 H4 d) : Mine H H.n v xs H4 := by
  have n1 := k1.n
  have n2 := h.n
  have n3 := k2.n
  refine ⟨by omega, fun A hA _ => ?_, ?_⟩
  · rw [k2.get A (by omega), h.keep A (by omega) (by omega), k1.get A hA]
  · obtain ⟨b, zs, hO, hx, hb⟩ := h.at_
    have := hO.lt
    exact ⟨b, zs, hO.keep (by rw [k2.get b this]; exact hO.1) rfl, hx, .inr (by omega)⟩
theorem short1_new (h206 : S 206 = none) (h156 : S 156 = none) (h204 : S 204 = none) (h210 : S 210 = none) {H : Heap} {x : AV} {xs : List Int} {d : Int} (hn : H.n + 20 < lim) (hx : Sl H x xs) (hl : xs.length ≤ 1000000) (hdg : Dig xs) (hd : 1 ≤ d ∧ d ≤ 100000000) :
    Cl (ctx.plus S) 206 [x, iv d] H fun r H' => ∃ q, r = .tup [q, iv (val xs % d)] ∧ Mine H H.n q (digits (val xs / d)) H' ∧ Kp H H' 12 := by
  refine cl_of h206 fn206 ?_
  have hT : (ctx.plus S).ty = tget := rfl
  refine ⟨by omega, by show H.n + 1 < lim; omega, by show H.n + 2 < lim; omega, ?_⟩
  refine ⟨_, len_sl hT (v := x) rfl hx, ?_⟩
  refine ⟨by show H.n + 3 < lim; omega, ⟨by omega, by omega, by omega⟩, ?_⟩
  rw [show ((xs.length : Int)).toNat = xs.length by omega, show (List.replicate xs.length t3.zero.cells).flatten = ints (List.replicate xs.length 0) from ints_zeros _]
  obtain ⟨g0, g1, g2, g3, g4⟩ := shH_get (H := H) (d := d) (n := xs.length) (by omega)
  refine ⟨_, store_slv (H := shH H d xs.length) (b := H.n + 1) (u := .nils) (v := .sl (H.n + 3) 0 xs.length xs.length) hT ⟨rfl, rfl⟩ g2, ?_⟩
  have hU := upd_set (H := shH H d xs.length) (b := H.n + 1) (x := .cells true 22 [.sl (H.n + 3) 0 xs.length xs.length]) (by show _ < H.n + 4; omega) (by show H.n + 4 < lim; omega)
  obtain ⟨H1, e1⟩ : ∃ H1, (shH H d xs.length).set (H.n + 1) (.cells true 22 [.sl (H.n + 3) 0 xs.length xs.length]) = H1 := ⟨_, rfl⟩
  rw [e1] at hU
  have hn1 : H1.n = H.n + 4 := hU.n
  refine (backward_run S h204 (H := (shH H d xs.length).set (H.n + 1) (.cells true 22 [.sl (H.n + 3) 0 xs.length xs.length])) (v := x) (by rw [e1]; omega)).mono ?_
  rintro _ _ ⟨rfl, rfl⟩
  rw [e1]
  have hp1 := Heap.get_push (H := H1) (b := .cells true 22 x.cells) (by omega)
  have hpn1 : (H1.push (.cells true 22 x.cells)).n = H.n + 5 := by show H1.n + 1 = _; omega
  rw [hn1] at hp1 ⊢
  generalize H1.push (.cells true 22 x.cells) = H2 at hp1 hpn1 ⊢
  have hk1 : ∀ A, A < H.n → H1.get A = H.get A := fun A hA => by rw [hU.other A (by omega)]; exact g0 A hA
  refine range_back S h210 (b := H.n + 4) (v := x) (xs := xs) (by omega) rfl (by omega)
    (fun k H' => (∀ A, A < H.n → H'.get A = H.get A) ∧ H'.get H.n = .cells true 3 [iv d] ∧ H'.get (H.n + 1) = .cells true 22 [.sl (H.n + 3) 0 xs.length xs.length] ∧ H'.get (H.n + 4) = .cells true 22 [x] ∧ H'.get (H.n + 5) = .dfr ∧ H'.n = H.n + 7 ∧
      ∃ r qs, H'.get (H.n + 2) = .cells true 3 [iv r] ∧ H'.get (H.n + 3) = .cells true 3 (ints (List.replicate k 0 ++ qs)) ∧ qs.length + k = xs.length ∧ Dig qs ∧ 0 ≤ r ∧ r < d ∧ val qs * d + r = val (xs.drop k)) ?_ ?_ ?_ ?_ ?_
  · rintro k H' ⟨a1, a2, a3, a4, a5, a6, -⟩
    exact ⟨load_slv hT a4, hx.mono a1, by omega, by omega⟩
  · rintro k H' b H3 ⟨a1, a2, a3, a4, a5, a6, r, qs, b1, b2, b3⟩ hV
    have := hV.n
    exact ⟨fun A hA => by rw [hV.other A (by omega)]; exact a1 A hA, by rw [hV.other _ (by omega)]; exact a2, by rw [hV.other _ (by omega)]; exact a3, by rw [hV.other _ (by omega)]; exact a4, by rw [hV.other _ (by omega)]; exact a5, by omega, r, qs, by rw [hV.other _ (by omega)]; exact b1, by rw [hV.other _ (by omega)]; exact b2, b3⟩
  · intro H' b1 b2 b3
    refine ⟨fun A hA => by rw [b2 A (by omega), hp1, if_neg (by omega)]; exact hk1 A hA, ?_, ?_, ?_, by rw [← b3, hpn1], by omega, 0, [], ?_, ?_, by simp, fun _ h => (List.not_mem_nil h).elim, by omega, by omega, by simp [val]⟩
    · rw [b2 _ (by omega), hp1, if_neg (by omega), hU.other _ (by omega)]; exact g1
    · rw [b2 _ (by omega), hp1, if_neg (by omega)]; exact hU.at_
    · rw [b2 _ (by omega), hp1, if_pos rfl, hx.cells.1]
    · rw [b2 _ (by omega), hp1, if_neg (by omega), hU.other _ (by omega)]; exact g3
    · rw [b2 _ (by omega), hp1, if_neg (by omega), hU.other _ (by omega), List.append_nil]; exact g4
  · rintro k e H' L ⟨a1, a2, a3, a4, a5, a6, r, qs, b1, b2, b3, b4, b5, b6, b7⟩ he hL
    refine ⟨rfl, rfl, rfl, ?_⟩
    intro H3 L' hV
    have hkl := (List.getElem?_eq_some_iff.1 he).1
    have hn3 := hV.n
    have heB := hdg e (List.mem_of_getElem? he)
    have c1 : ∀ A, A < H.n → H3.get A = H.get A := fun A hA => by rw [hV.other A (by omega)]; exact a1 A hA
    have c2 : H3.get H.n = .cells true 3 [iv d] := by rw [hV.other _ (by omega)]; exact a2
    have c3 : H3.get (H.n + 1) = .cells true 22 [.sl (H.n + 3) 0 xs.length xs.length] := by rw [hV.other _ (by omega)]; exact a3
    have c4 : H3.get (H.n + 4) = .cells true 22 [x] := by rw [hV.other _ (by omega)]; exact a4
    have c5 : H3.get (H.n + 5) = .dfr := by rw [hV.other _ (by omega)]; exact a5
    have d1 : H3.get (H.n + 2) = .cells true 3 [iv r] := by rw [hV.other _ (by omega)]; exact b1
    have d2 : H3.get (H.n + 3) = .cells true 3 (ints (List.replicate (k + 1) 0 ++ qs)) := by rw [hV.other _ (by omega)]; exact b2
    have d3 : H3.get (H.n + 6) = .loop L' := by have := hV.at_; rwa [hpn1] at this
    refine ⟨_, load_var hT d1, ?_⟩
    refine ⟨⟨by omega, by omega⟩, ?_⟩
    refine ⟨⟨by omega, by omega⟩, ?_⟩
    refine ⟨_, store_var hT d1, ?_⟩
    let H4 : Heap := H3.set (H.n + 2) (.cells true 3 [iv (r * 100000000 + e)])
    have hW : Upd H3 (H.n + 2) (.cells true 3 [iv (r * 100000000 + e)]) H4 := upd_set (by omega) (by omega)
    have hn4 := hW.n
    have c2' : H4.get H.n = .cells true 3 [iv d] := by rw [hW.other _ (by omega)]; exact c2
    have c3' : H4.get (H.n + 1) = .cells true 22 [.sl (H.n + 3) 0 xs.length xs.length] := by rw [hW.other _ (by omega)]; exact c3
    have d2' : H4.get (H.n + 3) = .cells true 3 (ints (List.replicate (k + 1) 0 ++ qs)) := by rw [hW.other _ (by omega)]; exact d2
    obtain ⟨q, hq⟩ : ∃ q, (r * 100000000 + e).tdiv d = q := ⟨_, rfl⟩
    obtain ⟨w, hw⟩ : ∃ w, (r * 100000000 + e).tmod d = w := ⟨_, rfl⟩
    obtain ⟨q1, q2, q3, q4, q5, q6⟩ := qr (m := r * 100000000 + e) (d := d) (by omega) (by omega)
    rw [hq] at q1; rw [hw] at q2
    rw [← q2] at q4 q5 q3; rw [← q1] at q6 q3
    have qB : q < 100000000 := by
      rcases ilt_or q 100000000 with h | h
      · exact h
      · exfalso
        have := Int.mul_le_mul_of_nonneg_left h (show (0:Int) ≤ d by omega)
        have h2 : d * 100000000 ≥ (r + 1) * 100000000 := Int.mul_le_mul_of_nonneg_right (by omega) (by omega)
        omega
    have hOw : Ow H4 (.sl (H.n + 3) 0 xs.length xs.length) (H.n + 3) (List.replicate (k + 1) 0 ++ qs) xs.length := ⟨d2', by simp; omega, .inl ⟨xs.length, rfl, Nat.le_refl _, by simp; omega⟩⟩
    have htk : (List.replicate (k + 1) (0:Int) ++ qs).take xs.length = List.replicate (k + 1) 0 ++ qs := List.take_of_length_le (by simp; omega)
    have hsl := hOw.sl
    rw [htk] at hsl
    have hlz : (List.replicate (k + 1) (0:Int) ++ qs).length = xs.length := by simp; omega
    have lq : loadE (ctx.plus S) 22 (.ptr (H.n + 1) 0) H4 = some (.sl (H.n + 3) 0 xs.length xs.length) := load_slv hT c3'
    have lr : loadE (ctx.plus S) 3 (.ptr (H.n + 2) 0) H4 = some (iv (r * 100000000 + e)) := load_var hT hW.at_
    have ld : loadE (ctx.plus S) 3 (.ptr H.n 0) H4 = some (iv d) := load_var hT c2'
    have si : ∀ n : Int, (iv n).same (iv n) = true := fun n => by simp [AV.same, AV.sames]
    refine ⟨_, lq, ?_⟩
    refine ⟨_, lr, ?_⟩
    refine ⟨_, ld, ?_⟩
    refine ⟨⟨by omega, by rw [hq]; unfold In64; omega⟩, ?_⟩
    refine ⟨_, lr, ?_⟩
    refine ⟨_, ld, ?_⟩
    refine ⟨by omega, ?_⟩
    refine ⟨_, idx_sl hT (v := .sl (H.n + 3) 0 xs.length xs.length) (n := (k : Int)) (k := k) rfl rfl hsl rfl (by omega), ?_⟩
    have st1 := store_ow (C := ctx.plus S) hT (x := (r * 100000000 + e).tdiv d) hOw (show k < xs.length by omega)
    refine ⟨_, st1, ?_⟩
    let H5 : Heap := H4.set (H.n + 3) (.cells true 3 (ints ((List.replicate (k + 1) 0 ++ qs).set k ((r * 100000000 + e).tdiv d))))
    have hX : Upd H4 (H.n + 3) (.cells true 3 (ints ((List.replicate (k + 1) 0 ++ qs).set k ((r * 100000000 + e).tdiv d)))) H5 := upd_set (by omega) (by omega)
    rw [hq] at hX
    have hn5 := hX.n
    have d1' : H5.get (H.n + 2) = .cells true 3 [iv (r * 100000000 + e)] := by rw [hX.other _ (by omega)]; exact hW.at_
    refine ⟨_, store_var (H := H5) hT d1', ?_⟩
    let H6 : Heap := H5.set (H.n + 2) (.cells true 3 [iv ((r * 100000000 + e).tmod d)])
    have hY : Upd H5 (H.n + 2) (.cells true 3 [iv ((r * 100000000 + e).tmod d)]) H6 := upd_set (by omega) (by omega)
    rw [hw] at hY
    have hn6 := hY.n
    refine ⟨draw_of3 [[true, false, false, false, false, false, false, false, false, false, false, false], [], [true, false, false, false, false, false, false, false, false, false, false, false], [true, false, false, false, false, false, false, false, false, false, false, false], [], [true, false, false, false, false, false, false, false, false, false, true, false], [true, false, false, false, false, false, false, false, false, false, true, false], [], [], [], []] (by kernel_rfl) rfl ?_ ?_, ?_⟩
    · exact ⟨⟨_, _, _, rfl, lq, by simp [AV.same, AV.sames], rfl, trivial⟩, trivial, ⟨_, _, _, rfl, lr, si _, rfl, trivial⟩, ⟨_, _, _, rfl, ld, si _, rfl, trivial⟩, trivial, ⟨_, _, _, rfl, lr, si _, rfl, hX.other (H.n + 2) (by omega), trivial⟩, ⟨_, _, _, rfl, ld, si _, rfl, hX.other H.n (by omega), trivial⟩, trivial, trivial, trivial, trivial, trivial⟩
    · repeat' (first | exact trivial | refine ⟨Nat.le_refl _, ?_⟩)
    have hset : (List.replicate (k + 1) (0:Int) ++ qs).set k q = List.replicate k 0 ++ q :: qs := by
      rw [List.replicate_succ', List.append_assoc, List.set_append_right _ _ (by simp)]; simp
    rw [hset] at hX
    have fin : H6.get (H2.n + 1) = .loop L' ∧ (∀ A, A < H.n → H6.get A = H.get A) ∧ H6.get H.n = .cells true 3 [iv d] ∧ H6.get (H.n + 1) = .cells true 22 [.sl (H.n + 3) 0 xs.length xs.length] ∧ H6.get (H.n + 4) = .cells true 22 [x] ∧ H6.get (H.n + 5) = .dfr ∧ H6.n = H.n + 7 ∧
      ∃ r qs, H6.get (H.n + 2) = .cells true 3 [iv r] ∧ H6.get (H.n + 3) = .cells true 3 (ints (List.replicate k 0 ++ qs)) ∧ qs.length + k = xs.length ∧ Dig qs ∧ 0 ≤ r ∧ r < d ∧ val qs * d + r = val (xs.drop k) := by
      refine ⟨?_, fun A hA => ?_, ?_, ?_, ?_, ?_, by omega, w, q :: qs, hY.at_, ?_, by simp; omega, fun z hz => ?_, q4, q5, ?_⟩
      · rw [hY.other _ (by omega), hX.other _ (by omega), hW.other _ (by omega)]; exact hV.at_
      · rw [hY.other _ (by omega), hX.other _ (by omega), hW.other _ (by omega)]; exact c1 A hA
      · rw [hY.other _ (by omega), hX.other _ (by omega)]; exact c2'
      · rw [hY.other _ (by omega), hX.other _ (by omega)]; exact c3'
      · rw [hY.other _ (by omega), hX.other _ (by omega), hW.other _ (by omega)]; exact c4
      · rw [hY.other _ (by omega), hX.other _ (by omega), hW.other _ (by omega)]; exact c5
      · rw [hY.other _ (by omega)]; exact hX.at_
      · rcases List.mem_cons.1 hz with rfl | hz
        · exact ⟨q6, qB⟩
        · exact b4 z hz
      · rw [val_cons_drop he, ← b7]
        simp only [val]
        grind
    exact ⟨rfl, fin⟩
  · rintro H' H3 ⟨a1, a2, a3, a4, a5, a6, r, qs, b1, b2, b3, b4, b5, b6, b7⟩ hV
    have hn3 := hV.n
    have c1 : ∀ A, A < H.n → H3.get A = H.get A := fun A hA => by rw [hV.other A (by omega)]; exact a1 A hA
    have c3 : H3.get (H.n + 1) = .cells true 22 [.sl (H.n + 3) 0 xs.length xs.length] := by rw [hV.other _ (by omega)]; exact a3
    have c5 : H3.get (H.n + 5) = .dfr := by rw [hV.other _ (by omega)]; exact a5
    have d1 : H3.get (H.n + 2) = .cells true 3 [iv r] := by rw [hV.other _ (by omega)]; exact b1
    have d2 : H3.get (H.n + 3) = .cells true 3 (ints qs) := by rw [hV.other _ (by omega)]; exact b2
    have hOw : Ow H3 (.sl (H.n + 3) 0 xs.length xs.length) (H.n + 3) qs xs.length := ⟨d2, by omega, .inl ⟨xs.length, rfl, Nat.le_refl _, by omega⟩⟩
    have si : ∀ n : Int, (iv n).same (iv n) = true := fun n => by simp [AV.same, AV.sames]
    have lq : loadE (ctx.plus S) 22 (.ptr (H.n + 1) 0) H3 = some (.sl (H.n + 3) 0 xs.length xs.length) := load_slv hT c3
    have lr : loadE (ctx.plus S) 3 (.ptr (H.n + 2) 0) H3 = some (iv r) := load_var hT d1
    refine ⟨_, lq, ?_⟩
    refine (trim_run S h156 (by omega) hOw).mono ?_
    rintro q _ ⟨rfl, hO2⟩
    rw [List.take_of_length_le (show qs.length ≤ xs.length by omega), b4.trim] at hO2
    refine ⟨_, lr, ?_⟩
    refine ⟨_, store_slv hT hO2.sl.cells c3, ?_⟩
    let H4 : Heap := H3.set (H.n + 1) (.cells true 22 [q])
    have hW : Upd H3 (H.n + 1) (.cells true 22 [q]) H4 := upd_set (by omega) (by omega)
    have hn4 := hW.n
    have d1' : H4.get (H.n + 2) = .cells true 3 [iv r] := by rw [hW.other _ (by omega)]; exact d1
    refine ⟨_, store_var (H := H4) hT d1', ?_⟩
    let H5 : Heap := H4.set (H.n + 2) (.cells true 3 [iv r])
    have hX : Upd H4 (H.n + 2) (.cells true 3 [iv r]) H5 := upd_set (by omega) (by omega)
    have hn5 := hX.n
    refine ⟨draw_of3 [[true, false, false, false, false, false], [], [true, false, true, false, true, false], [], []] (by kernel_rfl) rfl ?_ ?_, ?_⟩
    · exact ⟨⟨_, _, _, rfl, lq, by simp [AV.same, AV.sames], rfl, trivial⟩, trivial, ⟨_, _, _, rfl, lr, si _, rfl, rfl, hW.other (H.n + 2) (by omega), trivial⟩, trivial, trivial, trivial⟩
    · repeat' (first | exact trivial | refine ⟨Nat.le_refl _, ?_⟩)
    have hd5 : H5.get H2.n = .dfr := by rw [hX.other _ (by omega), hW.other _ (by omega), hpn1]; exact c5
    have hY := upd_set (H := H5) (b := H2.n) (x := .dead) (by omega) (by omega)
    refine ⟨H5.set H2.n .dead, by (show shutMarks [H2.n] H5 = _; simp only [shutMarks, hd5]), ?_⟩
    have hn6 := hY.n
    have l1 : (H5.set H2.n .dead).get (H.n + 1) = .cells true 22 [q] := by rw [hY.other _ (by omega), hX.other _ (by omega)]; exact hW.at_
    have l2 : (H5.set H2.n .dead).get (H.n + 2) = .cells true 3 [iv r] := by rw [hY.other _ (by omega)]; exact hX.at_
    refine ⟨_, load_slv hT l1, _, load_var hT l2, ?_⟩
    have hb3 : (H5.set H2.n .dead).get (H.n + 3) = .cells true 3 (ints qs) := by rw [hY.other _ (by omega), hX.other _ (by omega), hW.other _ (by omega)]; exact d2
    have hq := hO2.keep hb3 rfl
    obtain ⟨m1, m2⟩ := divmod_of b7 b5 b6
    have hdv : val qs = val xs / d := m1.symm
    have htr := (trim_take qs).1
    rw [b4.trim] at htr
    rw [hdv] at hq htr
    have hk' : ∀ A, A < H.n → (H5.set H2.n .dead).get A = H.get A := fun A hA => by rw [hY.other A (by omega), hX.other A (by omega), hW.other A (by omega)]; exact c1 A hA
    have hM : Mine H H.n q (digits (val xs / d)) (H5.set H2.n .dead) := ⟨by omega, fun A hA _ => hk' A hA, H.n + 3, qs, hq, htr.symm, .inr (by omega)⟩
    have hfin : ∃ q', AV.tup [q, iv r] = .tup [q', iv (val xs % d)] ∧ Mine H H.n q' (digits (val xs / d)) (H5.set H2.n .dead) ∧ Kp H (H5.set H2.n .dead) 12 :=
      ⟨q, by rw [show val xs % d = r from m2], hM, by omega, by omega, hk'⟩
    exact hfin
end Go.PI
