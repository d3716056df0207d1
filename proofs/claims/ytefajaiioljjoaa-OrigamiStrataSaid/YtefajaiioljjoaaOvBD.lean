/- Own work of the verifier: OtG. -/
import Derived.Test.YtefajaiioljjoaaOvBC
import Derived.Test.YtefajaiioljjoaaOvAU
import Derived.Test.YtefajaiioljjoaaOvAZ
set_option linter.all false
set_option exponentiation.threshold 3000
set_option linter.deprecated false
/- PERIODS, of the reference. -/
open Go.Proofs
namespace Go.PI
open IM
set_option maxRecDepth 10000
set_option maxHeartbeats 4000000
variable (S : FuncId → Option (List AV → Heap → Option (AV × Heap)))
structure RP (n : Nat) (f f' g g' : Nat → Nat) (X Y : List Int) (fl : List Bool) : Prop where
  lx : X.length = n
  ly : Y.length = n
  lf : fl.length = n
  zx : X[0]? = some 0
  zy : Y[0]? = some 0
  k0 : fl[0]? = some true
  wk : ∀ y, fl[y]? = some true → ∃ a b : Int, X[y]? = some a ∧ Y[y]? = some b ∧ Wk f f' g g' y a b ∧ 0 ≤ a ∧ 0 ≤ b ∧ a + b < fl.count true
section
variable {n : Nat} {f f' g g' : Nat → Nat} {X Y : List Int} {fl : List Bool}
theorem set_id {α : Type} {l : List α} {i : Nat} {x : α} (h : l[i]? = some x) : l.set i x = l := by
  apply List.ext_getElem?
  intro j
  by_cases e : i = j
  · subst e; rw [List.getElem?_set_self (List.getElem?_eq_some_iff.1 h).1, h]
  · rw [List.getElem?_set_ne e]
theorem cntT_set {z : Nat} (hz : fl[z]? = some false) : (fl.set z true).count true = fl.count true + 1 := by
  obtain ⟨h1, h2⟩ := List.getElem?_eq_some_iff.1 hz
  rw [List.count_set h1, h2]
  simp
theorem RP.start (h0 : 0 < n) : RP n f f' g g' (List.replicate n 0) (List.replicate n 0) ((List.replicate n false).set 0 true) := by
  have hc : ((List.replicate n false).set 0 true).count true = 1 := by
    rw [cntT_set (by rw [List.getElem?_replicate, if_pos h0]), List.count_eq_zero.2]
    intro h
    have := List.eq_of_mem_replicate h
    cases this
  refine ⟨by simp, by simp, by simp, by rw [List.getElem?_replicate, if_pos h0], by rw [List.getElem?_replicate, if_pos h0], List.getElem?_set_self (by simpa using h0), fun y hy => ?_⟩
  by_cases e : 0 = y
  · subst e
    exact ⟨0, 0, by rw [List.getElem?_replicate, if_pos h0], by rw [List.getElem?_replicate, if_pos h0], .o, by omega, by omega, by rw [hc]; omega⟩
  · rw [List.getElem?_set_ne e, List.getElem?_replicate] at hy
    split at hy
    · cases hy
    · cases hy
theorem RP.cle (h : RP n f f' g g' X Y fl) : fl.count true ≤ n := by rw [← h.lf]; exact List.count_le_length
theorem RP.put (h : RP n f f' g g' X Y fl) {e : Bool} {s : Nat} (hs : fl[s]? = some true) {a b : Int} (ha : X[s]? = some a) (hb : Y[s]? = some b) (hz : fl[nbE f g e s]? = some false) : RP n f f' g g' (X.set (nbE f g e s) (a + dxE e)) (Y.set (nbE f g e s) (b + dyE e)) (fl.set (nbE f g e s) true) := by
  obtain ⟨a', b', q1, q2, hw, q3, q4, q5⟩ := h.wk s hs
  have ea : a' = a := Option.some.inj (q1.symm.trans ha)
  have eb : b' = b := Option.some.inj (q2.symm.trans hb)
  subst ea eb
  have hwe := wk_e hw e
  obtain ⟨z, hzz⟩ : ∃ z, nbE f g e s = z := ⟨_, rfl⟩
  rw [hzz] at hz hwe ⊢
  have hd := dE_pos e
  have hc := cntT_set hz
  have hzl := (List.getElem?_eq_some_iff.1 hz).1
  have hz0 : z ≠ 0 := fun h0 => by rw [h0, h.k0] at hz; cases hz
  have lx := h.lx
  have ly := h.ly
  have lf := h.lf
  refine ⟨by rw [List.length_set]; exact lx, by rw [List.length_set]; exact ly, by rw [List.length_set]; exact lf, by rw [List.getElem?_set_ne hz0]; exact h.zx, by rw [List.getElem?_set_ne hz0]; exact h.zy, by rw [List.getElem?_set_ne hz0]; exact h.k0, fun y hy => ?_⟩
  by_cases e2 : z = y
  · subst e2
    exact ⟨_, _, List.getElem?_set_self (by omega), List.getElem?_set_self (by omega), hwe, by omega, by omega, by omega⟩
  · rw [List.getElem?_set_ne e2] at hy
    obtain ⟨a, b, r1, r2, r3, r4, r5, r6⟩ := h.wk y hy
    exact ⟨a, b, by rw [List.getElem?_set_ne e2]; exact r1, by rw [List.getElem?_set_ne e2]; exact r2, r3, r4, r5, by omega⟩
structure PQy (n : Nat) (f f' g g' : Nat → Nat) (X Y : List Int) (px py : Nat → Int) : Prop where
  gx : ∀ y, y < n → X[y]? = some (px y)
  gy : ∀ y, y < n → Y[y]? = some (py y)
  zx : px 0 = 0
  zy : py 0 = 0
  wk : ∀ y, y < n → Wk f f' g g' y (px y) (py y)
  bd : ∀ y, y < n → 0 ≤ px y ∧ 0 ≤ py y ∧ px y + py y < n
theorem RP.fin (h : RP n f f' g g' X Y fl) (h0 : 0 < n) (ha : ∀ y, y < n → fl[y]? = some true) : PQy n f f' g g' X Y (fun y => X.getD y 0) (fun y => Y.getD y 0) := by
  have hcl := h.cle
  have hk : ∀ y, y < n → ∃ a b : Int, X[y]? = some a ∧ Y[y]? = some b ∧ X.getD y 0 = a ∧ Y.getD y 0 = b ∧ Wk f f' g g' y a b ∧ 0 ≤ a ∧ 0 ≤ b ∧ a + b < fl.count true := fun y hy => by
    obtain ⟨a, b, r1, r2, r3⟩ := h.wk y (ha y hy)
    exact ⟨a, b, r1, r2, by rw [List.getD_eq_getElem?_getD, r1]; rfl, by rw [List.getD_eq_getElem?_getD, r2]; rfl, r3⟩
  refine ⟨fun y hy => ?_, fun y hy => ?_, by show X.getD 0 0 = 0; rw [List.getD_eq_getElem?_getD, h.zx]; rfl, by show Y.getD 0 0 = 0; rw [List.getD_eq_getElem?_getD, h.zy]; rfl, fun y hy => ?_, fun y hy => ?_⟩
  · obtain ⟨a, b, r1, r2, r3, r4, r5⟩ := hk y hy
    show X[y]? = some (X.getD y 0); rw [r3]; exact r1
  · obtain ⟨a, b, r1, r2, r3, r4, r5⟩ := hk y hy
    show Y[y]? = some (Y.getD y 0); rw [r4]; exact r2
  · obtain ⟨a, b, r1, r2, r3, r4, r5, -⟩ := hk y hy
    show Wk f f' g g' y (X.getD y 0) (Y.getD y 0); rw [r3, r4]; exact r5
  · obtain ⟨a, b, r1, r2, r3, r4, r5, r6, r7, r8⟩ := hk y hy
    show 0 ≤ X.getD y 0 ∧ 0 ≤ Y.getD y 0 ∧ X.getD y 0 + Y.getD y 0 < n
    rw [r3, r4]; omega
structure PL2 (n : Nat) (f f' g g' : Nat → Nat) (px py : Nat → Int) (k : Nat) (A B C : Int) : Prop where
  nf : NFm A B C
  bl : Bdl A B C
  per : Per f f' g g' A B C
  r : ∀ s, s < k → Ltt A B C (px s + 1 - px (f s)) (py s - py (f s))
  u : ∀ s, s < k → Ltt A B C (px s - px (g s)) (py s + 1 - py (g s))
end
theorem fn51 : ctx.fn 51 = some c51 := by kernel_rfl
theorem rperiods_ct (hS : OldO S) {r u : List Int} {n : Nat} {f f' g g' : Nat → Nat} (ho : IsO r u n f f' g g') (hcn : Conn n f g) (hn : n ≤ 12) :
    Ct (ctx.plus S) 51 [pO r u] 1000 fun w => ∃ A B C px py, w = lat A B C ∧ NFm A B C ∧ Per f f' g g' A B C ∧ Edg n f g px py A B C := by
  have h0 := ho.pos
  have hl := ho.l1
  have hrl := hl.1
  subst hrl
  have gr : ∀ i, i < r.length → r[i]? = some (f i : Int) := fun i hi => by rw [ho.hr, PL_get hi]
  have gu : ∀ i, i < r.length → u[i]? = some (g i : Int) := fun i hi => by rw [ho.hu, PL_get hi]
  have hul := hl.2
  refine ct_of (hS 51 (by decide)) fn51 ?_
  refine ⟨by omega, by omega, ?_⟩
  refine ⟨_, rfl, ?_⟩
  refine callq rfl (size_ct S hS) (by omega) ?_
  rintro _ rfl
  refine ⟨by kernel_rfl, ?_⟩
  refine ⟨by omega, ⟨by omega, by omega, by omega⟩, _, int_zero, ?_⟩
  refine ⟨by omega, ⟨by omega, by omega, by omega⟩, _, int_zero, ?_⟩
  refine ⟨by omega, ⟨by omega, by omega, by omega⟩, _, flg_zero, ?_⟩
  refine ⟨⟨by omega, by omega⟩, ?_⟩
  refine ⟨_, _, rfl, ⟨rfl, by rw [List.length_map, List.length_replicate]; show 0 + 0 * 1 + 1 ≤ _; omega, rfl⟩, _, flg_put (j := 0) (by rfl) (by rw [List.length_replicate]; omega), _, rfl, ?_⟩
  refine ⟨fun q st => ∃ (i : Nat) (X Y : List Int) (fl : List Bool) (T : List PV), st = ⟨T, [.live 24 [pIs r, pIs u], .live 60 [pn 0, pn 0, pn 0], .live 3 (X.map pn), .live 3 (Y.map pn), .live 4 (fl.map PV.bool)], 6⟩ ∧ Gt T 161 [(1, .optr 0 0), (2, .optr 1 0), (3, pn r.length), (4, .own 2 0 r.length r.length 1), (5, .own 3 0 r.length r.length 1), (6, .own 4 0 r.length r.length 1), (7, pn i)] ∧ q = r.length - i ∧ i ≤ r.length ∧ Hid (RP r.length f f' g g' X Y fl ∧ FlI r.length f g 0 i 0 fl), ⟨_, ci ⟨0, _, _, _, _, rfl, ⟨rfl, rfl, rfl, rfl, rfl, rfl, rfl, rfl, trivial⟩, rfl, Nat.zero_le _, ⟨RP.start h0, fl_zero h0⟩⟩⟩, ?_⟩
  rintro _ st ⟨i, X, Y, fl, T, rfl, hT, rfl, hi, hh⟩
  obtain ⟨J, rfl⟩ := gt_open hT
  clear hT
  refine ⟨fun hlt => ?_, fun hge => ?_⟩
  · refine ⟨fun q st => ∃ (j : Nat) (X Y : List Int) (fl : List Bool) (T : List PV), st = ⟨T, [.live 24 [pIs r, pIs u], .live 60 [pn 0, pn 0, pn 0], .live 3 (X.map pn), .live 3 (Y.map pn), .live 4 (fl.map PV.bool)], 6⟩ ∧ Gt T 161 [(1, .optr 0 0), (2, .optr 1 0), (3, pn r.length), (4, .own 2 0 r.length r.length 1), (5, .own 3 0 r.length r.length 1), (6, .own 4 0 r.length r.length 1), (7, pn i), (8, pn j)] ∧ q = r.length - j ∧ j ≤ r.length ∧ Hid (RP r.length f f' g g' X Y fl ∧ FlI r.length f g 0 i j fl), ⟨_, ci ⟨0, X, Y, fl, _, rfl, ⟨rfl, rfl, rfl, rfl, rfl, rfl, rfl, rfl, rfl, trivial⟩, rfl, Nat.zero_le _, hh⟩⟩, ?_⟩
    clear hh X Y fl
    rintro _ st ⟨j, X, Y, fl, T, rfl, hT, rfl, hj, hh⟩
    obtain ⟨J, rfl⟩ := gt_open hT
    clear hT
    obtain ⟨hR, hF⟩ := hh.h
    clear hh
    have lx := hR.lx
    have ly := hR.ly
    have lf := hR.lf
    refine ⟨fun hlt2 => ?_, fun hge2 => ?_⟩
    · have hjn : j < r.length := by omega
      have c1 := ho.pr.lt j hjn
      have c2 := ho.pu.lt j hjn
      obtain ⟨q, hq⟩ : ∃ q, fl[j]? = some q := ⟨fl[j]'(by omega), List.getElem?_eq_getElem _⟩
      refine ⟨_, rfl, ?_⟩
      refine ⟨⟨⟨by omega, by omega⟩, len_map_le (by omega)⟩, ?_⟩
      refine ⟨_, ld (at_map (gr j hjn)) (by show _ * 1 = j; omega), ?_⟩
      refine ⟨⟨by omega, by omega⟩, ?_⟩
      refine ⟨_, load_k rfl rfl rfl (at_map hq) (by show 0 + _ * 1 = j; omega), ?_⟩
      cases q with
      | false =>
        refine ⟨_, rfl, ?_⟩
        refine ⟨⟨⟨by omega, by omega⟩, len_map_le (by omega)⟩, ?_⟩
        refine ⟨_, ld (at_map (gu j hjn)) (by show _ * 1 = j; omega), ?_⟩
        refine ⟨⟨by omega, by omega⟩, ?_⟩
        refine ⟨_, load_k rfl rfl rfl (at_map hq) (by show 0 + _ * 1 = j; omega), ?_⟩
        refine ⟨⟨by omega, by omega⟩, ?_⟩
        exact ⟨_, by omega, ci ⟨j + 1, X, Y, fl, _, rfl, ⟨rfl, rfl, rfl, rfl, rfl, rfl, rfl, rfl, rfl, trivial⟩, rfl, by omega, ⟨hR, fl_skip hF hq⟩⟩⟩
      | true =>
        obtain ⟨a, b, ha, hb, -, a1, b1, ab⟩ := hR.wk j hq
        have hcl := hR.cle
        obtain ⟨q1, hq1⟩ : ∃ q, fl[f j]? = some q := ⟨fl[f j]'(by omega), List.getElem?_eq_getElem _⟩
        refine ⟨⟨by omega, by omega⟩, ?_⟩
        refine ⟨_, load_k rfl rfl rfl (at_map hq1) (by show 0 + _ * 1 = f j; omega), ?_⟩
        cases q1 with
        | true =>
          have ef : fl.set (f j) true = fl := set_id hq1
          refine ⟨_, rfl, ?_⟩
          refine ⟨⟨⟨by omega, by omega⟩, len_map_le (by omega)⟩, ?_⟩
          refine ⟨_, ld (at_map (gu j hjn)) (by show _ * 1 = j; omega), ?_⟩
          refine ⟨⟨by omega, by omega⟩, ?_⟩
          refine ⟨_, load_k rfl rfl rfl (at_map hq) (by show 0 + _ * 1 = j; omega), ?_⟩
          obtain ⟨q2, hq2⟩ : ∃ q, fl[g j]? = some q := ⟨fl[g j]'(by have := hR.lf; omega), List.getElem?_eq_getElem _⟩
          have hcl1 := hR.cle
          refine ⟨⟨by omega, by omega⟩, ?_⟩
          refine ⟨_, load_k rfl rfl rfl (at_map hq2) (by show 0 + _ * 1 = g j; omega), ?_⟩
          have hmk := fl_mark hF hq c1 c2
          have ef2 : fl.set (f j) true = fl := ef
          cases q2 with
          | true =>
            rw [ef2, set_id hq2] at hmk
            refine ⟨⟨by omega, by omega⟩, ?_⟩
            exact ⟨_, by omega, ci ⟨j + 1, X, Y, fl, _, rfl, ⟨rfl, rfl, rfl, rfl, rfl, rfl, rfl, rfl, rfl, trivial⟩, rfl, by omega, ⟨hR, hmk⟩⟩⟩
          | false =>
            rw [ef2] at hmk
            have hR2 : RP r.length f f' g g' (X.set (g j) a) (Y.set (g j) (b + 1)) (fl.set (g j) true) := by
              have := hR.put (e := false) hq ha hb hq2
              rw [show dxE false = 0 from rfl, Int.add_zero] at this
              exact this
            have lx2 := hR.lx
            have ly2 := hR.ly
            have lf2 := hR.lf
            refine ⟨by kernel_rfl, ?_⟩
            refine ⟨⟨by omega, by omega⟩, ?_⟩
            refine ⟨_, load_k rfl rfl rfl (at_map ha) (by show 0 + _ * 1 = j; omega), rfl, ?_⟩
            refine ⟨⟨by omega, by omega⟩, ?_⟩
            refine ⟨_, load_k rfl rfl rfl (at_map hb) (by show 0 + _ * 1 = j; omega), rfl, ?_⟩
            refine ⟨by unfold In64; omega, ?_⟩
            refine ⟨⟨by omega, by omega⟩, ?_⟩
            refine ⟨_, _, rfl, ⟨rfl, by rw [List.length_map]; show 0 + g j * 1 + 1 ≤ _; omega, rfl⟩, _, int_put (j := g j) (by show 0 + g j * 1 = g j; omega) (by omega), _, rfl, ?_⟩
            refine ⟨⟨by omega, by omega⟩, ?_⟩
            refine ⟨_, _, rfl, ⟨rfl, by rw [List.length_map]; show 0 + g j * 1 + 1 ≤ _; omega, rfl⟩, _, int_put (j := g j) (by show 0 + g j * 1 = g j; omega) (by omega), _, rfl, ?_⟩
            refine ⟨⟨by omega, by omega⟩, ?_⟩
            refine ⟨_, _, rfl, ⟨rfl, by rw [List.length_map]; show 0 + g j * 1 + 1 ≤ _; omega, rfl⟩, _, flg_put (by show 0 + g j * 1 = g j; omega) (by omega), _, rfl, ?_⟩
            refine ⟨⟨by omega, by omega⟩, ?_⟩
            exact ⟨_, by omega, ci ⟨j + 1, _, _, _, _, rfl, ⟨rfl, rfl, rfl, rfl, rfl, rfl, rfl, rfl, rfl, trivial⟩, rfl, by omega, ⟨hR2, hmk⟩⟩⟩
        | false =>
          have hR1 : RP r.length f f' g g' (X.set (f j) (a + 1)) (Y.set (f j) b) (fl.set (f j) true) := by
            have := hR.put (e := true) hq ha hb hq1
            rw [show dyE true = 0 from rfl, Int.add_zero] at this
            exact this
          have hq' : (fl.set (f j) true)[j]? = some true := set_true hq
          have hne : f j ≠ j := fun e => by rw [e, hq] at hq1; cases hq1
          have ha' : (X.set (f j) (a + 1))[j]? = some a := by rw [List.getElem?_set_ne hne]; exact ha
          have hb' : (Y.set (f j) b)[j]? = some b := by rw [List.getElem?_set_ne hne]; exact hb
          have lx1 := hR1.lx
          have ly1 := hR1.ly
          have lf1 := hR1.lf
          refine ⟨by kernel_rfl, ?_⟩
          refine ⟨⟨by omega, by omega⟩, ?_⟩
          refine ⟨_, load_k rfl rfl rfl (at_map ha) (by show 0 + _ * 1 = j; omega), rfl, ?_⟩
          refine ⟨by unfold In64; omega, ?_⟩
          refine ⟨⟨by omega, by omega⟩, ?_⟩
          refine ⟨_, load_k rfl rfl rfl (at_map hb) (by show 0 + _ * 1 = j; omega), rfl, ?_⟩
          refine ⟨⟨by omega, by omega⟩, ?_⟩
          refine ⟨_, _, rfl, ⟨rfl, by rw [List.length_map]; show 0 + f j * 1 + 1 ≤ _; omega, rfl⟩, _, int_put (j := f j) (by show 0 + f j * 1 = f j; omega) (by omega), _, rfl, ?_⟩
          refine ⟨⟨by omega, by omega⟩, ?_⟩
          refine ⟨_, _, rfl, ⟨rfl, by rw [List.length_map]; show 0 + f j * 1 + 1 ≤ _; omega, rfl⟩, _, int_put (j := f j) (by show 0 + f j * 1 = f j; omega) (by omega), _, rfl, ?_⟩
          refine ⟨⟨by omega, by omega⟩, ?_⟩
          refine ⟨_, _, rfl, ⟨rfl, by rw [List.length_map]; show 0 + f j * 1 + 1 ≤ _; omega, rfl⟩, _, flg_put (by show 0 + f j * 1 = f j; omega) (by omega), _, rfl, ?_⟩
          refine ⟨_, rfl, ?_⟩
          refine ⟨⟨⟨by omega, by omega⟩, len_map_le (by omega)⟩, ?_⟩
          refine ⟨_, ld (at_map (gu j hjn)) (by show _ * 1 = j; omega), ?_⟩
          refine ⟨⟨by omega, by omega⟩, ?_⟩
          refine ⟨_, load_k rfl rfl rfl (at_map hq') (by show 0 + _ * 1 = j; omega), ?_⟩
          obtain ⟨q2, hq2⟩ : ∃ q, (fl.set (f j) true)[g j]? = some q := ⟨(fl.set (f j) true)[g j]'(by have := hR1.lf; omega), List.getElem?_eq_getElem _⟩
          have hcl1 := hR1.cle
          refine ⟨⟨by omega, by omega⟩, ?_⟩
          refine ⟨_, load_k rfl rfl rfl (at_map hq2) (by show 0 + _ * 1 = g j; omega), ?_⟩
          have hmk := fl_mark hF hq c1 c2
          have ef2 : fl.set (f j) true = (fl.set (f j) true) := rfl
          cases q2 with
          | true =>
            rw [ef2, set_id hq2] at hmk
            refine ⟨⟨by omega, by omega⟩, ?_⟩
            exact ⟨_, by omega, ci ⟨j + 1, (X.set (f j) (a + 1)), (Y.set (f j) b), (fl.set (f j) true), _, rfl, ⟨rfl, rfl, rfl, rfl, rfl, rfl, rfl, rfl, rfl, trivial⟩, rfl, by omega, ⟨hR1, hmk⟩⟩⟩
          | false =>
            rw [ef2] at hmk
            have hR2 : RP r.length f f' g g' ((X.set (f j) (a + 1)).set (g j) a) ((Y.set (f j) b).set (g j) (b + 1)) ((fl.set (f j) true).set (g j) true) := by
              have := hR1.put (e := false) hq' ha' hb' hq2
              rw [show dxE false = 0 from rfl, Int.add_zero] at this
              exact this
            have lx2 := hR1.lx
            have ly2 := hR1.ly
            have lf2 := hR1.lf
            refine ⟨by kernel_rfl, ?_⟩
            refine ⟨⟨by omega, by omega⟩, ?_⟩
            refine ⟨_, load_k rfl rfl rfl (at_map ha') (by show 0 + _ * 1 = j; omega), rfl, ?_⟩
            refine ⟨⟨by omega, by omega⟩, ?_⟩
            refine ⟨_, load_k rfl rfl rfl (at_map hb') (by show 0 + _ * 1 = j; omega), rfl, ?_⟩
            refine ⟨by unfold In64; omega, ?_⟩
            refine ⟨⟨by omega, by omega⟩, ?_⟩
            refine ⟨_, _, rfl, ⟨rfl, by rw [List.length_map]; show 0 + g j * 1 + 1 ≤ _; omega, rfl⟩, _, int_put (j := g j) (by show 0 + g j * 1 = g j; omega) (by omega), _, rfl, ?_⟩
            refine ⟨⟨by omega, by omega⟩, ?_⟩
            refine ⟨_, _, rfl, ⟨rfl, by rw [List.length_map]; show 0 + g j * 1 + 1 ≤ _; omega, rfl⟩, _, int_put (j := g j) (by show 0 + g j * 1 = g j; omega) (by omega), _, rfl, ?_⟩
            refine ⟨⟨by omega, by omega⟩, ?_⟩
            refine ⟨_, _, rfl, ⟨rfl, by rw [List.length_map]; show 0 + g j * 1 + 1 ≤ _; omega, rfl⟩, _, flg_put (by show 0 + g j * 1 = g j; omega) (by omega), _, rfl, ?_⟩
            refine ⟨⟨by omega, by omega⟩, ?_⟩
            exact ⟨_, by omega, ci ⟨j + 1, _, _, _, _, rfl, ⟨rfl, rfl, rfl, rfl, rfl, rfl, rfl, rfl, rfl, trivial⟩, rfl, by omega, ⟨hR2, hmk⟩⟩⟩
    · have hjn : j = r.length := by omega
      subst hjn
      refine ⟨⟨by omega, by omega⟩, ?_⟩
      exact ⟨_, by omega, ci ⟨i + 1, X, Y, fl, _, rfl, ⟨rfl, rfl, rfl, rfl, rfl, rfl, rfl, rfl, trivial⟩, rfl, by omega, ⟨hR, fl_next ho.pr ho.pu h0 hF⟩⟩⟩
  · have hin : i = r.length := by omega
    subst hin
    obtain ⟨hR, hF⟩ := hh.h
    clear hh
    have hall : ∀ y, y < r.length → fl[y]? = some true := fun y hy => (fl_done ho.pr ho.pu h0 hF y).2 (hcn y hy)
    have hQ := hR.fin h0 hall
    obtain ⟨px, hpx⟩ : ∃ px : Nat → Int, (fun y => X.getD y 0) = px := ⟨_, rfl⟩
    obtain ⟨py, hpy⟩ : ∃ py : Nat → Int, (fun y => Y.getD y 0) = py := ⟨_, rfl⟩
    rw [hpx, hpy] at hQ
    have lx := hR.lx
    have ly := hR.ly
    clear hR hF hall hpx hpy
    refine ⟨by omega, ?_⟩
    refine ⟨fun q st => ∃ (s b : Nat) (A B C : Int) (T : List PV), st = ⟨T, [.live 24 [pIs r, pIs u], .live 60 [pn 0, pn 0, pn 0], .live 3 (X.map pn), .live 3 (Y.map pn), .live 4 (fl.map PV.bool), .live 60 [pn A, pn B, pn C]], b⟩ ∧ Gt T 161 [(1, .optr 0 0), (2, .optr 1 0), (3, pn r.length), (4, .own 2 0 r.length r.length 1), (5, .own 3 0 r.length r.length 1), (11, .optr 5 0), (12, pn s)] ∧ q = r.length - s ∧ s ≤ r.length ∧ b ≤ 10 + 12 * s ∧ Hid (PL2 r.length f f' g g' px py s A B C), ⟨_, ci ⟨0, _, 0, 0, 0, _, rfl, ⟨rfl, rfl, rfl, rfl, rfl, rfl, rfl, rfl, trivial⟩, rfl, Nat.zero_le _, by omega, ⟨⟨nf_zero, bd_zero, per_zero, fun s hs => by omega, fun s hs => by omega⟩⟩⟩⟩, ?_⟩
    rintro _ st ⟨s, b, A, B, C, T, rfl, hT, rfl, hs, hb, hh⟩
    obtain ⟨J, rfl⟩ := gt_open hT
    clear hT
    have hP := hh.h
    clear hh
    refine ⟨fun hlt => ?_, fun hge => ?_⟩
    · have hsn : s < r.length := by omega
      have c1 := ho.pr.lt s hsn
      have c2 := ho.pu.lt s hsn
      have b0 := hQ.bd s hsn
      have b1 := hQ.bd _ c1
      have b2 := hQ.bd _ c2
      refine ⟨by kernel_rfl, ?_⟩
      refine ⟨_, rfl, rfl, ?_⟩
      refine ⟨⟨⟨by omega, by omega⟩, len_map_le (by omega)⟩, ?_⟩
      refine ⟨_, ld (at_map (gr s hsn)) (by show _ * 1 = s; omega), rfl, ?_⟩
      refine ⟨_, rfl, rfl, ?_⟩
      refine ⟨⟨⟨by omega, by omega⟩, len_map_le (by omega)⟩, ?_⟩
      refine ⟨_, ld (at_map (gu s hsn)) (by show _ * 1 = s; omega), rfl, ?_⟩
      refine ⟨by kernel_rfl, ?_⟩
      refine ⟨_, rfl, rfl, ?_⟩
      refine ⟨⟨by omega, by omega⟩, ?_⟩
      refine ⟨_, load_k rfl rfl rfl (at_map (hQ.gx s hsn)) (by show 0 + _ * 1 = s; omega), rfl, ?_⟩
      refine ⟨by unfold In64; omega, ?_⟩
      refine ⟨⟨by omega, by omega⟩, ?_⟩
      refine ⟨_, load_k rfl rfl rfl (at_map (hQ.gx _ c1)) (by show 0 + f s * 1 = f s; omega), rfl, ?_⟩
      refine ⟨by unfold In64; omega, ?_⟩
      refine ⟨⟨by omega, by omega⟩, ?_⟩
      refine ⟨_, load_k rfl rfl rfl (at_map (hQ.gy s hsn)) (by show 0 + _ * 1 = s; omega), rfl, ?_⟩
      refine ⟨⟨by omega, by omega⟩, ?_⟩
      refine ⟨_, load_k rfl rfl rfl (at_map (hQ.gy _ c1)) (by show 0 + f s * 1 = f s; omega), rfl, ?_⟩
      refine ⟨by unfold In64; omega, ?_⟩
      refine callq rfl (rladd_ct S hS hP.nf hP.bl (X := px s + 1 - px (f s)) (Y := py s - py (f s)) (by omega) (by omega)) (by omega) ?_
      rintro _ ⟨A1, B1, C1, rfl, n1, l1, e1⟩
      have w1 : Wk f f' g g' 0 (px s + 1 - px (f s)) (py s - py (f s)) := (wk_sub ho.pr ho.pu h0 (hQ.wk _ c1) (hQ.wk s hsn).r)
      have p1 := per_next ho.pr ho.pu h0 hP.per w1 e1
      refine ⟨_, _, rfl, ⟨rfl, Nat.le_of_ble_eq_true rfl, rfl⟩, _, rfl, _, rfl, ?_⟩
      refine ⟨by kernel_rfl, ?_⟩
      refine ⟨_, rfl, rfl, ?_⟩
      refine ⟨⟨by omega, by omega⟩, ?_⟩
      refine ⟨_, load_k rfl rfl rfl (at_map (hQ.gx s hsn)) (by show 0 + _ * 1 = s; omega), rfl, ?_⟩
      refine ⟨⟨by omega, by omega⟩, ?_⟩
      refine ⟨_, load_k rfl rfl rfl (at_map (hQ.gx _ c2)) (by show 0 + g s * 1 = g s; omega), rfl, ?_⟩
      refine ⟨by unfold In64; omega, ?_⟩
      refine ⟨⟨by omega, by omega⟩, ?_⟩
      refine ⟨_, load_k rfl rfl rfl (at_map (hQ.gy s hsn)) (by show 0 + _ * 1 = s; omega), rfl, ?_⟩
      refine ⟨by unfold In64; omega, ?_⟩
      refine ⟨⟨by omega, by omega⟩, ?_⟩
      refine ⟨_, load_k rfl rfl rfl (at_map (hQ.gy _ c2)) (by show 0 + g s * 1 = g s; omega), rfl, ?_⟩
      refine ⟨by unfold In64; omega, ?_⟩
      refine callq rfl (rladd_ct S hS n1 l1 (X := px s - px (g s)) (Y := py s + 1 - py (g s)) (by omega) (by omega)) (by omega) ?_
      rintro _ ⟨A2, B2, C2, rfl, n2, l2, e2⟩
      have w2 : Wk f f' g g' 0 (px s - px (g s)) (py s + 1 - py (g s)) := (wk_sub ho.pr ho.pu h0 (hQ.wk _ c2) (hQ.wk s hsn).u)
      have p2 := per_next ho.pr ho.pu h0 p1 w2 e2
      refine ⟨_, _, rfl, ⟨rfl, Nat.le_of_ble_eq_true rfl, rfl⟩, _, rfl, _, rfl, ?_⟩
      refine ⟨⟨by omega, by omega⟩, ?_⟩
      refine ⟨_, by omega, ci ⟨s + 1, _, A2, B2, C2, _, rfl, ⟨rfl, rfl, rfl, rfl, rfl, rfl, rfl, rfl, trivial⟩, rfl, by omega, by omega, ⟨⟨n2, l2, p2, fun y hy => ?_, fun y hy => ?_⟩⟩⟩⟩
      · by_cases e : y = s
        · subst e; exact ltt_mono e2 (ltt_new e1)
        · exact ltt_mono e2 (ltt_mono e1 (hP.r y (by omega)))
      · by_cases e : y = s
        · subst e; exact ltt_new e2
        · exact ltt_mono e2 (ltt_mono e1 (hP.u y (by omega)))
    · have hsn : s = r.length := by omega
      subst hsn
      refine ⟨_, rfl, ?_⟩
      refine ⟨_, _, rfl, ⟨rfl, Nat.le_of_ble_eq_true rfl, rfl⟩, _, rfl, _, rfl, ?_⟩
      refine ⟨_, rfl, ?_⟩
      exact endq rfl ⟨A, B, C, px, py, rfl, hP.nf, hP.per, hQ.zx, hQ.zy, hP.r, hP.u⟩
end Go.PI
