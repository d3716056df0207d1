/- Own work of the verifier: OtD OtG OtI OgAe OgAf. -/
import Derived.Test.YtefajaiioljjoaaOwBG
import Derived.Test.YtefajaiioljjoaaOwAV
import Derived.Test.YtefajaiioljjoaaOwBC
import Derived.Test.YtefajaiioljjoaaOwBF
import Derived.Test.YtefajaiioljjoaaOwBH
import Derived.Test.YtefajaiioljjoaaOwBD
set_option linter.all false
set_option exponentiation.threshold 3000
set_option linter.deprecated false
/- A LATTICE AND A VECTOR, of the reference. -/
open Go.Proofs
namespace Go.PI
open IM
set_option maxRecDepth 10000
set_option maxHeartbeats 4000000
variable (S : FuncId → Option (List AV → Heap → Option (AV × Heap)))
end Go.PI
/- PERIODS, of the reference. -/
open Go.Proofs
namespace Go.PI
open IM
set_option maxRecDepth 10000
set_option maxHeartbeats 4000000
variable (S : FuncId → Option (List AV → Heap → Option (AV × Heap)))
structure RP (n : Nat) (f f' g g' : Nat → Nat) (X Y : List Int) (fl : List Bool) : Prop where
  lx : X.length = n
  ly : Y.length = n
  lf : fl.length = n
  zx : X[0]? = some 0
  zy : Y[0]? = some 0
  k0 : fl[0]? = some true
  wk : ∀ y, fl[y]? = some true → ∃ a b : Int, X[y]? = some a ∧ Y[y]? = some b ∧ Wk f f' g g' y a b ∧ 0 ≤ a ∧ 0 ≤ b ∧ a + b < fl.count true
section
variable {n : Nat} {f f' g g' : Nat → Nat} {X Y : List Int} {fl : List Bool}
theorem cntT_set {z : Nat} (hz : fl[z]? = some false) : (fl.set z true).count true = fl.count true + 1 := by
  obtain ⟨h1, h2⟩ := List.getElem?_eq_some_iff.1 hz
  rw [List.count_set h1, h2]
  simp
theorem RP.start (h0 : 0 < n) : RP n f f' g g' (List.replicate n 0) (List.replicate n 0) ((List.replicate n false).set 0 true) := by
  have hc : ((List.replicate n false).set 0 true).count true = 1 := by
    rw [cntT_set (by rw [List.getElem?_replicate, if_pos h0]), List.count_eq_zero.2]
    intro h
    have := List.eq_of_mem_replicate h
    cases this
  refine ⟨by simp, by simp, by simp, by rw [List.getElem?_replicate, if_pos h0], by rw [List.getElem?_replicate, if_pos h0], List.getElem?_set_self (by simpa using h0), fun y hy => ?_⟩
  by_cases e : 0 = y
  · subst e
    exact ⟨0, 0, by rw [List.getElem?_replicate, if_pos h0], by rw [List.getElem?_replicate, if_pos h0], .o, by omega, by omega, by rw [hc]; omega⟩
  · rw [List.getElem?_set_ne e, List.getElem?_replicate] at hy
    split at hy
    · cases hy
    · cases hy
theorem RP.cle (h : RP n f f' g g' X Y fl) : fl.count true ≤ n := by rw [← h.lf]; exact List.count_le_length
theorem RP.put (h : RP n f f' g g' X Y fl) {e : Bool} {s : Nat} (hs : fl[s]? = some true) {a b : Int} (ha : X[s]? = some a) (hb : Y[s]? = some b) (hz : fl[nbE f g e s]? = some false) : RP n f f' g g' (X.set (nbE f g e s) (a + dxE e)) (Y.set (nbE f g e s) (b + dyE e)) (fl.set (nbE f g e s) true) := by
  obtain ⟨a', b', q1, q2, hw, q3, q4, q5⟩ := h.wk s hs
  have ea : a' = a := Option.some.inj (q1.symm.trans ha)
  have eb : b' = b := Option.some.inj (q2.symm.trans hb)
  subst ea eb
  have hwe := wk_e hw e
  obtain ⟨z, hzz⟩ : ∃ z, nbE f g e s = z := ⟨_, rfl⟩
  rw [hzz] at hz hwe ⊢
  have hd := dE_pos e
  have hc := cntT_set hz
  have hzl := (List.getElem?_eq_some_iff.1 hz).1
  have hz0 : z ≠ 0 := fun h0 => by rw [h0, h.k0] at hz; cases hz
  have lx := h.lx
  have ly := h.ly
  have lf := h.lf
  refine ⟨by rw [List.length_set]; exact lx, by rw [List.length_set]; exact ly, by rw [List.length_set]; exact lf, by rw [List.getElem?_set_ne hz0]; exact h.zx, by rw [List.getElem?_set_ne hz0]; exact h.zy, by rw [List.getElem?_set_ne hz0]; exact h.k0, fun y hy => ?_⟩
  by_cases e2 : z = y
  · subst e2
    exact ⟨_, _, List.getElem?_set_self (by omega), List.getElem?_set_self (by omega), hwe, by omega, by omega, by omega⟩
  · rw [List.getElem?_set_ne e2] at hy
    obtain ⟨a, b, r1, r2, r3, r4, r5, r6⟩ := h.wk y hy
    exact ⟨a, b, by rw [List.getElem?_set_ne e2]; exact r1, by rw [List.getElem?_set_ne e2]; exact r2, r3, r4, r5, by omega⟩
structure PQy (n : Nat) (f f' g g' : Nat → Nat) (X Y : List Int) (px py : Nat → Int) : Prop where
  gx : ∀ y, y < n → X[y]? = some (px y)
  gy : ∀ y, y < n → Y[y]? = some (py y)
  zx : px 0 = 0
  zy : py 0 = 0
  wk : ∀ y, y < n → Wk f f' g g' y (px y) (py y)
  bd : ∀ y, y < n → 0 ≤ px y ∧ 0 ≤ py y ∧ px y + py y < n
theorem RP.fin (h : RP n f f' g g' X Y fl) (h0 : 0 < n) (ha : ∀ y, y < n → fl[y]? = some true) : PQy n f f' g g' X Y (fun y => X.getD y 0) (fun y => Y.getD y 0) := by
  have hcl := h.cle
  have hk : ∀ y, y < n → ∃ a b : Int, X[y]? = some a ∧ Y[y]? = some b ∧ X.getD y 0 = a ∧ Y.getD y 0 = b ∧ Wk f f' g g' y a b ∧ 0 ≤ a ∧ 0 ≤ b ∧ a + b < fl.count true := fun y hy => by
    obtain ⟨a, b, r1, r2, r3⟩ := h.wk y (ha y hy)
    exact ⟨a, b, r1, r2, by rw [List.getD_eq_getElem?_getD, r1]; rfl, by rw [List.getD_eq_getElem?_getD, r2]; rfl, r3⟩
  refine ⟨fun y hy => ?_, fun y hy => ?_, by show X.getD 0 0 = 0; rw [List.getD_eq_getElem?_getD, h.zx]; rfl, by show Y.getD 0 0 = 0; rw [List.getD_eq_getElem?_getD, h.zy]; rfl, fun y hy => ?_, fun y hy => ?_⟩
  · obtain ⟨a, b, r1, r2, r3, r4, r5⟩ := hk y hy
    show X[y]? = some (X.getD y 0); rw [r3]; exact r1
  · obtain ⟨a, b, r1, r2, r3, r4, r5⟩ := hk y hy
    show Y[y]? = some (Y.getD y 0); rw [r4]; exact r2
  · obtain ⟨a, b, r1, r2, r3, r4, r5, -⟩ := hk y hy
    show Wk f f' g g' y (X.getD y 0) (Y.getD y 0); rw [r3, r4]; exact r5
  · obtain ⟨a, b, r1, r2, r3, r4, r5, r6, r7, r8⟩ := hk y hy
    show 0 ≤ X.getD y 0 ∧ 0 ≤ Y.getD y 0 ∧ X.getD y 0 + Y.getD y 0 < n
    rw [r3, r4]; omega
structure PL2 (n : Nat) (f f' g g' : Nat → Nat) (px py : Nat → Int) (k : Nat) (A B C : Int) : Prop where
  nf : NFm A B C
  bl : Bdl 5500 A B C
  per : Per f f' g g' A B C
  r : ∀ s, s < k → Ltt A B C (px s + 1 - px (f s)) (py s - py (f s))
  u : ∀ s, s < k → Ltt A B C (px s - px (g s)) (py s + 1 - py (g s))
end
end Go.PI
/- THE LAW of strata. -/
open Go.Proofs
namespace Go.PI
open IM
set_option maxRecDepth 10000
set_option maxHeartbeats 4000000
variable (S : FuncId → Option (List AV → Heap → Option (AV × Heap)))
def GL (v : PV) (σ : List StB) (Xs : List Int) : Prop := (v = .nils ∧ Xs = []) ∨ ∃ j, v = .ownu j Xs.length 1 ∧ σ[j]? = some (.live 3 (Xs.map pn))
theorem GL.gr {v : PV} {σ : List StB} {Xs : List Int} (h : GL v σ Xs) : Gr pn 3 v σ Xs := by
  rcases h with h | ⟨j, h1, h2⟩
  · exact .inl h
  · exact .inr (.inr ⟨j, h1, h2⟩)
theorem fn90 : ctx.fn 90 = some c90 := by kernel_rfl
theorem pstratum_ct (hS : OldO S) {r u : List Int} {n : Nat} {f f' g g' : Nat → Nat} (h : IsO r u n f f' g g') (hn : n ≤ 30) : Ct (ctx.plus S) 90 [pO r u] 20000 fun v => v = pIs (accTo n (cycs n (cmf f f' g g')) (n + 1)) := by
  have hM0 := vertices_ct S hS h
  have hc := IsO.cm h
  have hMl0 : (cycs n (cmf f f' g g')).length ≤ n := cycs_len (Nat.le_refl n)
  have hMe0 : ∀ x ∈ cycs n (cmf f f' g g'), x.length ≤ n ∧ 0 < x.length := fun x hx => by
    refine ⟨cycs_mem hc x hx, ?_⟩
    unfold cycs at hx
    obtain ⟨y, hy, rfl⟩ := List.mem_map.1 hx
    rw [cyc_len]
    exact (ordr_spec hc (List.mem_range.1 (List.mem_filter.1 hy).1)).1
  have hMp0 : cycs n (cmf f f' g g') ≠ [] := fun e => by
    have hm : cyc (cmf f f' g g') 0 ∈ cycs n (cmf f f' g g') := by
      unfold cycs
      exact List.mem_map.2 ⟨0, List.mem_filter.2 ⟨List.mem_range.2 h.pos, by simp only [decide_eq_true_eq]; exact fun y _ => Nat.zero_le y⟩, rfl⟩
    rw [e] at hm
    cases hm
  obtain ⟨M, hM⟩ : ∃ M, cycs n (cmf f f' g g') = M := ⟨_, rfl⟩
  rw [hM] at hM0 hMl0 hMe0 hMp0 ⊢
  refine ct_of (hS 90 (by decide)) fn90 ?_
  refine ⟨by omega, ?_⟩
  refine ⟨_, rfl, ?_⟩
  refine callq rfl hM0 (by omega) ?_
  rintro _ rfl
  refine ⟨fun q st => ∃ (i b : Nat) (v : PV) (σ : List StB) (T : List PV), st = ⟨T, σ, b⟩ ∧ Gt T 25 [(3, v), (7, pM M), (8, pn M.length), (9, pn i)] ∧ q = M.length - i ∧ i ≤ M.length ∧ b ≤ 10010 + 3 * i ∧ Hid (GL v σ (ords (M.take i))), ⟨_, ci ⟨0, _, .nils, _, _, rfl, ⟨rfl, rfl, rfl, rfl, rfl, trivial⟩, rfl, Nat.zero_le _, by omega, ⟨.inl ⟨rfl, rfl⟩⟩⟩⟩, ?_⟩
  rintro _ st ⟨i, b, v, σ, T, rfl, hT, rfl, hi, hb, hh⟩
  obtain ⟨J, rfl⟩ := gt_open hT
  clear hT
  have hG := hh.h
  clear hh
  refine ⟨fun hlt => ?_, fun hge => ?_⟩
  · have hiM : i < M.length := by omega
    obtain ⟨l, hl⟩ : ∃ l, M[i]? = some l := ⟨_, List.getElem?_eq_getElem hiM⟩
    have hle := hMe0 l (List.mem_of_getElem? hl)
    have hol : (ords (M.take i)).length ≤ 100 := by unfold ords; rw [List.length_map, List.length_take]; omega
    refine ⟨⟨⟨by omega, by omega⟩, len_map_le (by omega)⟩, ?_⟩
    refine ⟨_, ld (at_map hl) (by show _ * 1 = i; omega), ?_⟩
    refine ⟨⟨by omega, by omega⟩, ?_⟩
    refine ⟨by omega, part1 fzI ⟨[pn ((l.length : Int) - 1)], rfl, ?_⟩⟩
    refine appGu (f := pn) (e := 3) (y := (l.length : Int) - 1) hG.gr.push push_cont rfl rfl rfl rfl (by kernel_rfl) rfl rfl (by omega) (by omega) fun σ' hlv hkp => ?_
    have ho : ords (M.take (i + 1)) = ords (M.take i) ++ [(l.length : Int) - 1] := by
      unfold ords
      rw [List.take_add_one, hl, List.map_append]; rfl
    rw [← ho] at hlv ⊢
    refine ⟨⟨by omega, by omega⟩, ?_⟩
    exact ⟨_, by omega, ci ⟨i + 1, _, _, σ', _, rfl, ⟨rfl, rfl, rfl, rfl, rfl, trivial⟩, rfl, by omega, by omega, ⟨.inr ⟨_, rfl, hlv⟩⟩⟩⟩
  · have hiM : i = M.length := by omega
    rw [hiM, List.take_length] at hG
    have hol : (ords M).length = M.length := by unfold ords; rw [List.length_map]
    rcases hG with ⟨-, e⟩ | ⟨jv, rfl, hlv⟩
    · rw [e] at hol
      exact absurd (List.eq_nil_of_length_eq_zero hol.symm) hMp0
    · refine callm (sort_cm S hS (.inr rfl) hlv rfl (by have := List.length_pos_iff.2 hMp0; omega) (by omega)) (by omega) ?_
      rintro _ σ2 ⟨rfl, zs, s1, s2⟩
      have hzl : zs.length = (ords M).length := s1.perm.length_eq
      have hz := ords_sorted hMe0 s1.perm (by rw [hzl]; exact s2)
      refine callm (reverse_cm S hS (.inr rfl) s1.at' hzl (by omega)) (by omega) ?_
      rintro _ σ3 ⟨rfl, rfl⟩
      have hjl := (List.getElem?_eq_some_iff.1 s1.at').1
      have hcn : Cn pn (.ownu jv (ords M).length 1) (σ2.set jv (.live 3 (zs.reverse.map pn))) zs.reverse := .inr ⟨jv, 3, contOf_live (List.getElem?_set_self hjl), .inr (by rw [List.length_reverse, hzl])⟩
      obtain ⟨σ4, hf, -⟩ := hcn.fz
      exact endf hf (by rw [hz]; rfl)
def gen (n : Nat) (M : List (List Int)) : Int := ((n : Int) - M.length).tdiv 2 + 1
theorem fn92 : ctx.fn 92 = some c92 := by kernel_rfl
theorem pgenus_ct (hS : OldO S) {r u : List Int} {n : Nat} {f f' g g' : Nat → Nat} (h : IsO r u n f f' g g') : Ct (ctx.plus S) 92 [pO r u] 10010 fun v => v = pn (gen n (cycs n (cmf f f' g g'))) := by
  have hM0 := vertices_ct S hS h
  have hl := h.l1
  have hn := h.le
  have hMl0 : (cycs n (cmf f f' g g')).length ≤ n := cycs_len (Nat.le_refl n)
  obtain ⟨M, hM⟩ : ∃ M, cycs n (cmf f f' g g') = M := ⟨_, rfl⟩
  rw [hM] at hM0 hMl0 ⊢
  have hrl := hl.1
  subst hrl
  obtain ⟨t1, t2, t3, t4, t5⟩ := tqm (p := (r.length : Int) - M.length) (q := 2) (by decide)
  refine ct_of (hS 92 (by decide)) fn92 ?_
  refine ⟨by omega, ?_⟩
  refine ⟨by kernel_rfl, ?_⟩
  refine ⟨_, rfl, rfl, ?_⟩
  refine ⟨_, rfl, rfl, ?_⟩
  refine callq rfl hM0 (by omega) ?_
  rintro _ rfl
  refine ⟨⟨by omega, by omega⟩, ?_⟩
  refine ⟨⟨by decide, by unfold In64; omega⟩, ?_⟩
  refine ⟨by unfold In64; omega, ?_⟩
  exact endq rfl rfl
theorem fn91 : ctx.fn 91 = some c91 := by kernel_rfl
theorem fn93 : ctx.fn 93 = some c93 := by kernel_rfl
theorem answer91_ct (hS : OldO S) {r u : List Int} {chk dc g d : Nat} {e : Int} {Q : PV → Prop} (hc : Ct (ctx.plus S) chk [pOs [(r, u)]] dc fun v => v = pn e) (hq : ∀ v, Q v → cloA v = true) (hg : e = 0 → Ct (ctx.plus S) g [pO r u] d Q) :
    Ct (ctx.plus S) 91 [pO r u, .fn chk, .fn g] (2 + dc + d) fun v => (e ≠ 0 ∧ v = .tup [pn 0, pn e]) ∨ (e = 0 ∧ ∃ w, Q w ∧ v = .tup [w, pn 0]) := by
  refine ct_of (hS 91 (by decide)) fn91 ?_
  refine ⟨by omega, ?_⟩
  refine ⟨_, rfl, ?_⟩
  refine ⟨by omega, partc rfl ⟨_, rfl, ?_⟩⟩
  refine cal1 (fz_own (ty := 24) rfl (Nat.le_refl 2) (Nat.le_refl _) rfl) hc (by omega) ?_
  rintro _ rfl
  refine ⟨fun h0 => ?_, fun h0 => ?_⟩
  · exact ⟨⟨[], .inl ⟨h0, rfl⟩⟩⟩
  · refine ⟨_, rfl, ?_⟩
    refine callq rfl (hg h0) (by omega) ?_
    intro w hw
    exact endsq (by simp only [cloAs, hq w hw]; rfl) (.inr ⟨h0, w, hw, rfl⟩)
theorem answer93_ct (hS : OldO S) {r u : List Int} {chk dc g d : Nat} {e : Int} {Q : PV → Prop} (hc : Ct (ctx.plus S) chk [pOs [(r, u)]] dc fun v => v = pn e) (hq : ∀ v, Q v → ∃ A B C, v = lat A B C) (hg : e = 0 → Ct (ctx.plus S) g [pO r u] d Q) :
    Ct (ctx.plus S) 93 [pO r u, .fn chk, .fn g] (4 + dc + d) fun v => (e ≠ 0 ∧ v = .tup [lat 0 0 0, pn e]) ∨ (e = 0 ∧ ∃ A B C, Q (lat A B C) ∧ v = .tup [lat A B C, pn 0]) := by
  refine ct_of (hS 93 (by decide)) fn93 ?_
  refine ⟨by omega, by omega, ?_⟩
  refine ⟨_, rfl, ?_⟩
  refine ⟨by omega, partc rfl ⟨_, rfl, ?_⟩⟩
  refine cal1 (fz_own (ty := 24) rfl (Nat.le_refl 2) (Nat.le_refl _) rfl) hc (by omega) ?_
  rintro _ rfl
  refine ⟨fun h0 => ?_, fun h0 => ?_⟩
  · refine ⟨by omega, ?_⟩
    refine ⟨_, rfl, ?_⟩
    refine ⟨_, _, rfl, ⟨rfl, Nat.le_of_ble_eq_true rfl, rfl⟩, _, rfl, _, rfl, ?_⟩
    refine ⟨_, rfl, ?_⟩
    exact endsq rfl (.inl ⟨h0, rfl⟩)
  · refine ⟨_, rfl, ?_⟩
    refine callq rfl (hg h0) (by omega) ?_
    intro w hw
    obtain ⟨A, B, C, rfl⟩ := hq w hw
    refine ⟨_, _, rfl, ⟨rfl, Nat.le_of_ble_eq_true rfl, rfl⟩, _, rfl, _, rfl, ?_⟩
    refine ⟨_, rfl, ?_⟩
    exact endsq rfl (.inr ⟨h0, A, B, C, hw, rfl⟩)
theorem fn46 : ctx.fn 46 = some c46 := by kernel_rfl
theorem fn47 : ctx.fn 47 = some c47 := by kernel_rfl
theorem fn48 : ctx.fn 48 = some c48 := by kernel_rfl
theorem st46 (hS : OldO S) {r u : List Int} {e : Int} {P : PV} (h72 : Ct (ctx.plus S) 72 [pOs [(r, u)]] 3300 fun v => v = pn e) (hP : cloA P = true) (hg : e = 0 → Ct (ctx.plus S) 90 [pO r u] 20000 fun v => v = P) : Ct (ctx.plus S) 46 [pO r u] 24000 fun v => (e ≠ 0 ∧ v = .tup [.lst 0 [], pn e]) ∨ (e = 0 ∧ v = .tup [P, pn 0]) := by
  refine ct_of (hS 46 (by decide)) fn46 ?_
  refine ⟨by omega, ?_⟩
  refine ⟨_, rfl, ?_⟩
  refine callq rfl (answer85_ct S hS h72 (Q := fun v => v = P) (fun v e => by rw [e]; exact hP) (d := 20000) hg) (by omega) ?_
  rintro _ (⟨h0, rfl⟩ | ⟨h0, w, rfl, rfl⟩)
  · exact endsq rfl (.inl ⟨h0, rfl⟩)
  · exact endsq (by simp only [cloAs, hP]; rfl) (.inr ⟨h0, rfl⟩)
theorem ge47 (hS : OldO S) {r u : List Int} {e m : Int} (h72 : Ct (ctx.plus S) 72 [pOs [(r, u)]] 3300 fun v => v = pn e) (hg : e = 0 → Ct (ctx.plus S) 92 [pO r u] 20000 fun v => v = pn m) : Ct (ctx.plus S) 47 [pO r u] 24000 fun v => (e ≠ 0 ∧ v = .tup [pn 0, pn e]) ∨ (e = 0 ∧ v = .tup [pn m, pn 0]) := by
  refine ct_of (hS 47 (by decide)) fn47 ?_
  refine ⟨by omega, ?_⟩
  refine ⟨_, rfl, ?_⟩
  refine callq rfl (answer91_ct S hS h72 (Q := fun v => v = pn m) (fun v e => by rw [e]; rfl) (d := 20000) hg) (by omega) ?_
  rintro _ (⟨h0, rfl⟩ | ⟨h0, w, rfl, rfl⟩)
  · exact endsq rfl (.inl ⟨h0, rfl⟩)
  · exact endsq rfl (.inr ⟨h0, rfl⟩)
theorem pe48 (hS : OldO S) {r u : List Int} {e : Int} {Q : PV → Prop} (h72 : Ct (ctx.plus S) 72 [pOs [(r, u)]] 3300 fun v => v = pn e) (hq : ∀ v, Q v → ∃ A B C, v = lat A B C) (hg : e = 0 → Ct (ctx.plus S) 94 [pO r u] 2000 Q) : Ct (ctx.plus S) 48 [pO r u] 24000 fun v => (e ≠ 0 ∧ v = .tup [lat 0 0 0, pn e]) ∨ (e = 0 ∧ ∃ A B C, Q (lat A B C) ∧ v = .tup [lat A B C, pn 0]) := by
  refine ct_of (hS 48 (by decide)) fn48 ?_
  refine ⟨by omega, by omega, ?_⟩
  refine ⟨_, rfl, ?_⟩
  refine callq rfl (answer93_ct S hS h72 hq (d := 2000) hg) (by omega) ?_
  rintro _ (⟨h0, rfl⟩ | ⟨h0, A, B, C, hw, rfl⟩)
  · refine ⟨_, _, rfl, ⟨rfl, Nat.le_of_ble_eq_true rfl, rfl⟩, _, rfl, _, rfl, ?_⟩
    refine ⟨_, rfl, ?_⟩
    exact endsq rfl (.inl ⟨h0, rfl⟩)
  · refine ⟨_, _, rfl, ⟨rfl, Nat.le_of_ble_eq_true rfl, rfl⟩, _, rfl, _, rfl, ?_⟩
    refine ⟨_, rfl, ?_⟩
    exact endsq rfl (.inr ⟨h0, A, B, C, hw, rfl⟩)
theorem peq_same : ∀ (xs : List Int), peqI (xs.map pn) (xs.map pn) = some true
  | [] => rfl
  | x :: xs => by
    show (match peqI (xs.map pn) (xs.map pn) with | some r => _ | none => none) = _
    rw [peq_same xs]
    simp
end Go.PI
/- A NUMBERING and what is built by it: what the store holds. -/
open Go.Proofs
namespace Go.PI
open IM
set_option maxRecDepth 10000
set_option maxHeartbeats 4000000
def Xi (f g : Nat → Nat) (n s i : Nat) : List Nat := (List.range i).map (rn (es f g n s) (ei f g n s) f)
def Yi (f g : Nat → Nat) (n s i : Nat) : List Nat := (List.range i).map (rn (es f g n s) (ei f g n s) g)
theorem Xi_succ {f g : Nat → Nat} {n s i : Nat} : Xi f g n s (i + 1) = Xi f g n s i ++ [rn (es f g n s) (ei f g n s) f i] := by unfold Xi; rw [List.range_succ, List.map_append]; rfl
theorem Yi_succ {f g : Nat → Nat} {n s i : Nat} : Yi f g n s (i + 1) = Yi f g n s i ++ [rn (es f g n s) (ei f g n s) g i] := by unfold Yi; rw [List.range_succ, List.map_append]; rfl
theorem Xi_len {f g : Nat → Nat} {n s i : Nat} : (Xi f g n s i).length = i := by simp [Xi]
theorem Yi_len {f g : Nat → Nat} {n s i : Nat} : (Yi f g n s i).length = i := by simp [Yi]
theorem Xi_full {f g : Nat → Nat} {n s : Nat} : NL (Xi f g n s n) = Rs f g n s := by unfold NL Xi Rs PL; rw [List.map_map]; rfl
theorem Yi_full {f g : Nat → Nat} {n s : Nat} : NL (Yi f g n s n) = Us f g n s := by unfold NL Yi Us PL; rw [List.map_map]; rfl
structure Own1 (σ0 σ : List StB) (L4 L5 L6 : Nat) (w v : PV) : Prop where
  out : ∀ q, blkOf v = some q → σ0.length ≤ q ∧ q < σ.length ∧ q ≠ L4 ∧ q ≠ L5 ∧ q ≠ L6 ∧ blkOf w ≠ some q
structure ML (σ0 σ : List StB) (j m : Nat) (v0 v vr vu : PV) (L4 L5 L6 : Nat) (P4 P5 : List PV) (xs X Y : List Nat) : Prop where
  jl : j < σ0.length
  ml : m < σ0.length
  l4 : σ0.length ≤ L4
  l5 : L4 < L5
  l6 : L5 < L6
  c4 : σ[L4]? = some (.liv 24 P4)
  c5 : σ[L5]? = some (.liv 24 P5)
  c6 : σ[L6]? = some (.liv 24 [vr, vu])
  num : Num σ j m v xs
  keep : ∀ (i : Nat) (b : StB), i ≠ j → i ≠ m → blkOf v0 ≠ some i → σ0[i]? = some b → σ[i]? = some b
  len : σ0.length ≤ σ.length
  old : ∀ i, i < σ0.length → blkOf v0 ≠ some i → blkOf v ≠ some i
  b4 : blkOf v ≠ some L4
  b5 : blkOf v ≠ some L5
  b6 : blkOf v ≠ some L6
  gr : Gr pnn 3 vr σ X
  gu : Gr pnn 3 vu σ Y
  sep : ∀ q, blkOf vr = some q → blkOf vu ≠ some q
  o1 : Own1 σ0 σ L4 L5 L6 v vr
  o2 : Own1 σ0 σ L4 L5 L6 v vu
theorem ML.lt6 {σ0 σ : List StB} {j m : Nat} {v0 v vr vu : PV} {L4 L5 L6 : Nat} {P4 P5 : List PV} {xs X Y : List Nat} (h : ML σ0 σ j m v0 v vr vu L4 L5 L6 P4 P5 xs X Y) : L6 < σ.length := (List.getElem?_eq_some_iff.1 h.c6).1
theorem ML.around {σ0 σ σ2 : List StB} {j m : Nat} {v0 v v2 vr vu : PV} {L4 L5 L6 : Nat} {P4 P5 : List PV} {xs xs2 X Y : List Nat} (h : ML σ0 σ j m v0 v vr vu L4 L5 L6 P4 P5 xs X Y) (e1 : Num σ2 j m v2 xs2) (e2 : NF σ σ2 j m v v2) : ML σ0 σ2 j m v0 v2 vr vu L4 L5 L6 P4 P5 xs2 X Y := by
  have hl6 := h.lt6
  have a1 := h.jl
  have a2 := h.ml
  have a3 := h.l4
  have a4 := h.l5
  have a5 := h.l6
  have hlen := h.len
  have ow : ∀ {w : PV}, Own1 σ0 σ L4 L5 L6 v w → Own1 σ0 σ2 L4 L5 L6 v2 w := fun {w} o => ⟨fun q hq => by
    obtain ⟨b1, b2, b3, b4, b5, b6⟩ := o.out q hq
    exact ⟨b1, Nat.lt_of_lt_of_le b2 e2.len, b3, b4, b5, e2.blk q b2 b6⟩⟩
  have kg : ∀ {w : PV} {Z : List Nat}, Own1 σ0 σ L4 L5 L6 v w → Gr pnn 3 w σ Z → Gr pnn 3 w σ2 Z := fun {w Z} o g => g.keep fun i b hi hb => by
    obtain ⟨b1, b2, b3, b4, b5, b6⟩ := o.out i hi
    exact e2.keep i b (by omega) (by omega) b6 hb
  exact ⟨a1, a2, a3, a4, a5, e2.keep L4 _ (by omega) (by omega) h.b4 h.c4, e2.keep L5 _ (by omega) (by omega) h.b5 h.c5, e2.keep L6 _ (by omega) (by omega) h.b6 h.c6, e1,
    fun i b h1 h2 h3 h4 => e2.keep i b h1 h2 (h.old i (List.getElem?_eq_some_iff.1 h4).1 h3) (h.keep i b h1 h2 h3 h4), Nat.le_trans hlen e2.len,
    fun i hi h3 => e2.blk i (Nat.lt_of_lt_of_le hi hlen) (h.old i hi h3), e2.blk L4 (by omega) h.b4, e2.blk L5 (by omega) h.b5, e2.blk L6 hl6 h.b6, kg h.o1 h.gr, kg h.o2 h.gu, h.sep, ow h.o1, ow h.o2⟩
theorem ML.push {σ0 σ : List StB} {j m : Nat} {v0 v vr vu : PV} {L4 L5 L6 : Nat} {P4 P5 : List PV} {xs X Y : List Nat} {b : StB} (h : ML σ0 σ j m v0 v vr vu L4 L5 L6 P4 P5 xs X Y) : ML σ0 (σ ++ [b]) j m v0 v vr vu L4 L5 L6 P4 P5 xs X Y := by
  have ow : ∀ {w : PV}, Own1 σ0 σ L4 L5 L6 v w → Own1 σ0 (σ ++ [b]) L4 L5 L6 v w := fun {w} o => ⟨fun q hq => by
    obtain ⟨b1, b2, b3⟩ := o.out q hq
    exact ⟨b1, by rw [List.length_append]; omega, b3⟩⟩
  exact ⟨h.jl, h.ml, h.l4, h.l5, h.l6, push_old h.c4, push_old h.c5, push_old h.c6, h.num.push, fun i x h1 h2 h3 h4 => push_old (h.keep i x h1 h2 h3 h4), by rw [List.length_append]; have := h.len; omega, h.old, h.b4, h.b5, h.b6, h.gr.push, h.gu.push, h.sep, ow h.o1, ow h.o2⟩
theorem ML.with {σ0 σ σ3 : List StB} {j m : Nat} {v0 v vr vu vr' vu' : PV} {L4 L5 L6 : Nat} {P4 P5 : List PV} {xs X Y X' Y' : List Nat} (h : ML σ0 σ j m v0 v vr vu L4 L5 L6 P4 P5 xs X Y)
    (w1 : Gr pnn 3 vr' σ3 X') (w2 : Gr pnn 3 vu' σ3 Y') (w3 : ∀ q, blkOf vr' = some q → blkOf vu' ≠ some q) (w4 : σ.length ≤ σ3.length) (w5 : ∀ i bl, blkOf vr ≠ some i → blkOf vu ≠ some i → σ[i]? = some bl → σ3[i]? = some bl) (w6 : ∀ i, i < σ.length → blkOf vr' ≠ some i ∧ blkOf vu' ≠ some i) :
    ML σ0 (σ3.set L6 (.liv 24 [vr', vu'])) j m v0 v vr' vu' L4 L5 L6 P4 P5 xs X' Y' := by
  have hl6 := h.lt6
  have a1 := h.jl
  have a2 := h.ml
  have a3 := h.l4
  have a4 := h.l5
  have a5 := h.l6
  have hlen := h.len
  have hvb : ∀ q, blkOf v = some q → q < σ.length := fun q hq => h.num.gr.blk hq
  have lo : ∀ i, i < σ0.length → blkOf vr ≠ some i ∧ blkOf vu ≠ some i := fun i hi => ⟨fun e => by have := (h.o1.out i e).1; omega, fun e => by have := (h.o2.out i e).1; omega⟩
  have n4 : blkOf vr ≠ some L4 ∧ blkOf vu ≠ some L4 := ⟨fun e => (h.o1.out _ e).2.2.1 rfl, fun e => (h.o2.out _ e).2.2.1 rfl⟩
  have n5 : blkOf vr ≠ some L5 ∧ blkOf vu ≠ some L5 := ⟨fun e => (h.o1.out _ e).2.2.2.1 rfl, fun e => (h.o2.out _ e).2.2.2.1 rfl⟩
  have nv : ∀ q, blkOf v = some q → blkOf vr ≠ some q ∧ blkOf vu ≠ some q := fun q hq => ⟨fun e => (h.o1.out _ e).2.2.2.2.2 hq, fun e => (h.o2.out _ e).2.2.2.2.2 hq⟩
  have ow : ∀ {w : PV} {Z : List Nat}, Gr pnn 3 w σ3 Z → (∀ i, i < σ.length → blkOf w ≠ some i) → Own1 σ0 (σ3.set L6 (.liv 24 [vr', vu'])) L4 L5 L6 v w := fun {w Z} g hw => ⟨fun q hq => by
    have hge : ¬ q < σ.length := fun hlt => hw q hlt hq
    have := g.blk hq
    exact ⟨by omega, by rw [List.length_set]; omega, by omega, by omega, by omega, fun e => hge (hvb q e)⟩⟩
  have kg : ∀ {w : PV} {Z : List Nat}, Gr pnn 3 w σ3 Z → (∀ i, i < σ.length → blkOf w ≠ some i) → Gr pnn 3 w (σ3.set L6 (.liv 24 [vr', vu'])) Z := fun {w Z} g hw => g.keep fun i b hi hb => by
    rw [List.getElem?_set_ne (fun e => hw L6 hl6 (by rw [e]; exact hi))]; exact hb
  have w6a := fun i hi => (w6 i hi).1
  have w6b := fun i hi => (w6 i hi).2
  refine ⟨a1, a2, a3, a4, a5, ?_, ?_, List.getElem?_set_self (by omega), ?_, fun i b h1 h2 h3 h4 => ?_, by rw [List.length_set]; omega, h.old, h.b4, h.b5, h.b6, kg w1 w6a, kg w2 w6b, w3, ow w1 w6a, ow w2 w6b⟩
  · rw [List.getElem?_set_ne (by omega)]; exact w5 _ _ n4.1 n4.2 h.c4
  · rw [List.getElem?_set_ne (by omega)]; exact w5 _ _ n5.1 n5.2 h.c5
  · refine (h.num.keep fun i b hi hb => w5 i b ?_ ?_ hb).set (by omega) (by omega) h.b6
    · rcases hi with rfl | rfl | hi
      · exact (lo _ a1).1
      · exact (lo _ a2).1
      · exact (nv i hi).1
    · rcases hi with rfl | rfl | hi
      · exact (lo _ a1).2
      · exact (lo _ a2).2
      · exact (nv i hi).2
  · have hi := (List.getElem?_eq_some_iff.1 h4).1
    rw [List.getElem?_set_ne (by omega)]
    exact w5 i b (lo i hi).1 (lo i hi).2 (h.keep i b h1 h2 h3 h4)
def LS (R B : List Int) (i : Nat) (lb : Bool) : Prop := (lb = false ∧ B ≠ [] ∧ R.take i = B.take i) ∨ (lb = true ∧ (B = [] ∨ Lt R B))
theorem LS.eq {R B : List Int} {i : Nat} {a b : Int} (h : LS R B i false) (ha : R[i]? = some a) (hb : B[i]? = some b) (e : a = b) : LS R B (i + 1) false := by
  rcases h with ⟨-, h1, h2⟩ | ⟨h, -⟩
  · exact .inl ⟨rfl, h1, by rw [take_snoc ha, take_snoc hb, h2, e]⟩
  · cases h
theorem LS.lt {R B : List Int} {i : Nat} {a b : Int} (h : LS R B i false) (ha : R[i]? = some a) (hb : B[i]? = some b) (e : a < b) : LS R B (i + 1) true := by
  rcases h with ⟨-, h1, h2⟩ | ⟨h, -⟩
  · exact .inr ⟨rfl, .inr ((lt_at h2 ha hb (by omega)).2 e)⟩
  · cases h
theorem LS.gt {R B : List Int} {i : Nat} {a b : Int} (h : LS R B i false) (ha : R[i]? = some a) (hb : B[i]? = some b) (e : b < a) : B ≠ [] ∧ ¬ Lt R B ∧ R ≠ B := by
  rcases h with ⟨-, h1, h2⟩ | ⟨h, -⟩
  · exact ⟨h1, fun hc => by have := (lt_at h2 ha hb (by omega)).1 hc; omega, fun e2 => by rw [e2, hb] at ha; have := Option.some.inj ha; omega⟩
  · cases h
theorem LS.tr {R B : List Int} {i : Nat} (h : LS R B i true) : LS R B (i + 1) true := by
  rcases h with ⟨h, -⟩ | h
  · cases h
  · exact .inr h
end Go.PI
/- A NUMBERING that may come first. -/
open Go.Proofs
namespace Go.PI
open IM
set_option maxRecDepth 10000
set_option maxHeartbeats 4000000
variable (S : FuncId → Option (List AV → Heap → Option (AV × Heap)))
theorem fz2 {σ : List StB} {vr vu : PV} {X Y : List Nat} (cr : Cn pnn vr σ X) (cu : Cn pnn vu σ Y) : ∃ σ2, Fz (.agg [vr, vu]) σ (pO (NL X) (NL Y)) σ2 ∧ ∀ i b, blkOf vr ≠ some i → blkOf vu ≠ some i → σ[i]? = some b → σ2[i]? = some b := by
  obtain ⟨σ1, f1, c1, l1, k1⟩ := cr.fz
  obtain ⟨σ2, f2, c2, l2, k2⟩ := (cu.same c1).fz
  rw [pIs_NL] at f1 f2
  have h1 : ∀ K : PV → List StB → Prop, K (pIs (NL X)) σ1 → frzK σ vr K := fun K hK => by
    have := f1 K hK
    rcases cr with ⟨rfl, -⟩ | ⟨j, ty, -, rfl | rfl⟩ <;> exact this
  have h2 : ∀ K : PV → List StB → Prop, K (pIs (NL Y)) σ2 → frzK σ1 vu K := fun K hK => by
    have := f2 K hK
    rcases cu with ⟨rfl, -⟩ | ⟨j, ty, -, rfl | rfl⟩ <;> exact this
  exact ⟨σ2, fun K hK => h1 (fun p σ' => frzsK σ' [vu] fun ps σ'' => K (.agg (p :: ps)) σ'') (h2 (fun p σ'' => K (.agg [pIs (NL X), p]) σ'') hK), fun i b a1 a2 hb => k2 i b a2 (k1 i b a1 hb)⟩
theorem ML.fin {σ0 σ σa : List StB} {j m : Nat} {v0 v vr vu : PV} {L4 L5 L6 : Nat} {P4 P5 : List PV} {xs X Y : List Nat} (h : ML σ0 σ j m v0 v vr vu L4 L5 L6 P4 P5 xs X Y) (ka : ∀ i b, blkOf vu ≠ some i → σ[i]? = some b → σa[i]? = some b) (cr : Cn pnn vr σa X) (cu : Cn pnn vu σa Y) :
    ∃ σ2, Fz (.agg [vr, vu]) σa (pO (NL X) (NL Y)) σ2 ∧ Num σ2 j m v xs ∧ (∀ (i : Nat) (b : StB), i ≠ j → i ≠ m → blkOf v0 ≠ some i → σ0[i]? = some b → σ2[i]? = some b) ∧ ∀ i b, σ.length ≤ i → σa[i]? = some b → σ2[i]? = some b := by
  obtain ⟨σ2, f2, k2⟩ := fz2 cr cu
  have lo : ∀ i, i < σ0.length → blkOf vr ≠ some i ∧ blkOf vu ≠ some i := fun i hi => ⟨fun e => by have := (h.o1.out i e).1; omega, fun e => by have := (h.o2.out i e).1; omega⟩
  have nv : ∀ q, blkOf v = some q → blkOf vr ≠ some q ∧ blkOf vu ≠ some q := fun q hq => ⟨fun e => (h.o1.out _ e).2.2.2.2.2 hq, fun e => (h.o2.out _ e).2.2.2.2.2 hq⟩
  refine ⟨σ2, f2, h.num.keep fun i b hi hb => ?_, fun i b h1 h2 h3 h4 => ?_, fun i b hi hb => k2 i b (fun e => by have := (h.o1.out i e).2.1; omega) (fun e => by have := (h.o2.out i e).2.1; omega) hb⟩
  · have hh : blkOf vr ≠ some i ∧ blkOf vu ≠ some i := by
      rcases hi with rfl | rfl | hi
      · exact lo _ h.jl
      · exact lo _ h.ml
      · exact nv i hi
    exact k2 i b hh.1 hh.2 (ka i b hh.2 hb)
  · have hh := lo i (List.getElem?_eq_some_iff.1 h4).1
    exact k2 i b hh.1 hh.2 (ka i b hh.2 (h.keep i b h1 h2 h3 h4))
theorem set_same {σ : List StB} {q : Nat} {x : StB} (h : σ[q]? = some x) : σ.set q x = σ := by
  apply List.ext_getElem?
  intro i
  by_cases e : q = i
  · subst e
    rw [List.getElem?_set_self (List.getElem?_eq_some_iff.1 h).1, h]
  · rw [List.getElem?_set_ne e]
theorem sm_agg {vr vu : PV} {σ : List StB} {X Y : List Nat} (h1 : Gr pnn 3 vr σ X) (h2 : Gr pnn 3 vu σ Y) : smP (.agg [vr, vu]) = true := by
  rcases h1 with ⟨rfl, -⟩ | ⟨_, _, rfl, -⟩ | ⟨_, rfl, -⟩ <;> rcases h2 with ⟨rfl, -⟩ | ⟨_, _, rfl, -⟩ | ⟨_, rfl, -⟩ <;> rfl
theorem fn115 : ctx.fn 115 = some c115 := by kernel_rfl
theorem makeLess_cm (hS : OldO S) {σ : List StB} {j m : Nat} {v0 : PV} {r u : List Int} {n s : Nat} {f f' g g' : Nat → Nat} {bR bU : List Int} (ho : IsO r u n f f' g g') (hc : Conn n f g) (hs : s < n) (h : Num σ j m v0 [s]) (hb : (bR = [] ∧ bU = []) ∨ (bR.length = n ∧ bU.length = n)) :
    Cm (ctx.plus S) 115 [.optr j 0, pO r u, pO bR bU] σ 20000 fun w σ' => ∃ v' q bb R' U', w = .tup [q, .bool bb] ∧ (bb = true ↔ (bR = [] ∨ Lt (Rs f g n s ++ Us f g n s) (bR ++ bU))) ∧ σ'.length ≠ j ∧ σ'.length ≠ m ∧ blkOf v' ≠ some σ'.length ∧ σ.length ≤ σ'.length ∧ (∀ i, i < σ.length → blkOf v0 ≠ some i → blkOf v' ≠ some i) ∧ ∀ b0, ∃ σ2, Fz q (σ' ++ [b0]) (pO R' U') σ2 ∧ (bb = true → R' = Rs f g n s ∧ U' = Us f g n s ∧ Num σ2 j m v' (bfs f g s n)) ∧
      (∀ (i : Nat) (b : StB), i ≠ j → i ≠ m → blkOf v0 ≠ some i → σ[i]? = some b → σ2[i]? = some b) ∧ σ2[σ'.length]? = some b0 := by
  have hn := ho.le
  have h0 := ho.pos
  have hlen := fun i => bfs_len (s := s) ho.pr ho.pu hs i
  have hjl := h.jl
  have hml := h.ml
  have hbl : bR.length ≤ 60 := by rcases hb with ⟨h, -⟩ | ⟨h, -⟩ <;> rw [h] <;> first | omega | (simp; done) | (simp; omega)
  have hul : bU.length ≤ 60 := by rcases hb with ⟨-, h⟩ | ⟨-, h⟩ <;> rw [h] <;> first | omega | (simp; done) | (simp; omega)
  refine cm_of Oren (hS 115 (by decide)) fn115 fun c k0 hcc => ?_
  refine ⟨by omega, by omega, ?_⟩
  refine ⟨by omega, ?_⟩
  have p5 : (σ ++ [StB.liv 24 (pO r u).pcells] ++ [StB.liv 24 (pO bR bU).pcells] ++ [StB.liv 24 [.nils, .nils]])[(σ ++ [StB.liv 24 (pO r u).pcells]).length]? = some (StB.liv 24 [pIs bR, pIs bU]) := push_old push_get
  refine ⟨_, load_liv p5 rfl rfl, ?_⟩
  have hML : ML σ (σ ++ [StB.liv 24 (pO r u).pcells] ++ [StB.liv 24 (pO bR bU).pcells] ++ [StB.liv 24 [.nils, .nils]]) j m v0 v0 .nils .nils σ.length (σ ++ [StB.liv 24 (pO r u).pcells]).length (σ ++ [StB.liv 24 (pO r u).pcells] ++ [StB.liv 24 (pO bR bU).pcells]).length [pIs r, pIs u] [pIs bR, pIs bU] (bfs f g s 0) (Xi f g n s 0) (Yi f g n s 0) :=
    ⟨hjl, hml, Nat.le_refl _, by simp, by simp, push_old (push_old push_get), p5, push_get, h.push.push.push, fun i b _ _ _ hh => push_old (push_old (push_old hh)), by simp, fun i _ hh => hh, fun e => by have := h.gr.blk e; omega, fun e => by have := h.gr.blk e; simp at this; omega, fun e => by have := h.gr.blk e; simp at this; omega, .nil, .nil, fun q hq => by (cases hq), ⟨fun q hq => by (cases hq)⟩, ⟨fun q hq => by (cases hq)⟩⟩
  refine ⟨fun he => ?_, fun he => ?_⟩
  all_goals
    refine ⟨fun q st => ∃ (i b L4 L5 L6 : Nat) (lb : Bool) (v vr vu : PV) (σ' : List StB) (T : List PV), st = ⟨T, σ', b⟩ ∧ Gt T 65 [(0, .optr j 0), (4, .optr L4 0), (5, .optr L5 0), (6, .optr L6 0), (8, .bool lb), (9, pn i)] ∧ q = n - i ∧ i ≤ n ∧ b ≤ k0 + 10 + 60 * i ∧ Hid (ML σ σ' j m v0 v vr vu L4 L5 L6 [pIs r, pIs u] [pIs bR, pIs bU] (bfs f g s i) (Xi f g n s i) (Yi f g n s i) ∧ LS (Rs f g n s) bR i lb), ⟨_, ci ⟨0, _, _, _, _, _, v0, .nils, .nils, _, _, rfl, ⟨rfl, rfl, rfl, rfl, rfl, rfl, rfl, trivial⟩, rfl, Nat.zero_le _, by omega, ⟨hML, by
      first
        | exact .inr ⟨rfl, .inl (List.length_eq_zero_iff.1 (by omega))⟩
        | exact .inl ⟨rfl, fun e => by rw [e] at he; simp at he, rfl⟩⟩⟩⟩, ?_⟩
    rintro _ st ⟨i, b, L4, L5, L6, lb, v, vr, vu, σ', T, rfl, hT, rfl, hi, hbb, hh⟩
    obtain ⟨J, rfl⟩ := gt_open hT
    clear hT
    obtain ⟨hM, hLS⟩ := hh.h
    clear hh
    obtain ⟨jv, ty, hcv, hv⟩ := hM.num.gr.shape hM.num.ne
    have hliv := hM.num.liv
    have hL := hlen i
    rcases hv with hv | hv
    all_goals
      rw [hv] at hliv
      refine ⟨_, load_liv hliv rfl rfl, ?_⟩
      refine ⟨fun hlt => ?_, fun hge => ?_⟩
      · have hil : i < (bfs f g s i).length := by omega
        have hin : i < n := by omega
        obtain ⟨x, hx⟩ : ∃ x, (bfs f g s i)[i]? = some x := ⟨_, List.getElem?_eq_getElem hil⟩
        have hxe : x = es f g n s i := by
          have h1 := bfs_get (k := n - i) hx
          rw [show i + (n - i) = n by omega, es_get ho.pr ho.pu h0 hs hc hin] at h1
          exact (Option.some.inj h1).symm
        have hxn := bfs_lt ho.pr ho.pu hs i x (List.mem_of_getElem? hx)
        have hnx : bfs f g s (i + 1) = addL (addL (bfs f g s i) (f x)) (g x) := nxt_at hx
        have m1 : f x ∈ bfs f g s (i + 1) := by rw [hnx, addL_mem, addL_mem]; exact .inl (.inr rfl)
        have m2 : g x ∈ bfs f g s (i + 1) := by rw [hnx, addL_mem]; exact .inr rfl
        have i1 : (addL (addL (bfs f g s i) (f x)) (g x)).idxOf (f x) = rn (es f g n s) (ei f g n s) f i := by rw [← hnx, bfs_idx (n := n) (by omega) m1, hxe]; rfl
        have i2 : (addL (addL (bfs f g s i) (f x)) (g x)).idxOf (g x) = rn (es f g n s) (ei f g n s) g i := by rw [← hnx, bfs_idx (n := n) (by omega) m2, hxe]; rfl
        have hRi : (Rs f g n s)[i]? = some (rn (es f g n s) (ei f g n s) f i : Int) := PL_get hin
        obtain ⟨a, ha⟩ : ∃ a : Nat, rn (es f g n s) (ei f g n s) f i = a := ⟨_, rfl⟩
        obtain ⟨a2, ha2⟩ : ∃ a : Nat, rn (es f g n s) (ei f g n s) g i = a := ⟨_, rfl⟩
        rw [ha] at i1 hRi
        rw [ha2] at i2
        have hX1 : Xi f g n s (i + 1) = Xi f g n s i ++ [a] := by rw [Xi_succ, ha]
        have hY1 : Yi f g n s (i + 1) = Yi f g n s i ++ [a2] := by rw [Yi_succ, ha2]
        refine ⟨_, load_liv hM.c4 rfl rfl, ?_⟩
        refine callm (around_cm S hS ho hM.num (by omega) hx hxn) (by omega) ?_
        rintro _ σ2 ⟨v2, rfl, e1, e2⟩
        rw [i1, i2]
        have hM2 := (hM.around e1 e2).push (b := StB.live 107 [pnn a, pnn a2])
        rw [← hnx] at hM2
        clear hM e1 e2 hliv hcv hv
        refine ⟨by omega, ?_⟩
        refine ⟨_, _, push_get, ⟨rfl, Nat.le_of_ble_eq_true rfl, rfl⟩, _, rfl, _, push_set, ?_⟩
        cases lb with
        | true =>
          refine ⟨by kernel_rfl, ?_⟩
          refine ⟨by kernel_rfl, ?_⟩
          refine ⟨_, load_liv hM2.c6 rfl rfl, ?_⟩
          refine ⟨_, load_c push_cont rfl rfl, ?_⟩
          refine callm (with_cm S hS (a := a) (b := a2) hM2.gr hM2.gu hM2.sep (by rw [Xi_len]; omega) (by rw [Yi_len]; omega)) (by omega) ?_
          rintro _ σ3 ⟨vr', vu', rfl, w1, w2, w3, w4, w5, w6⟩
          have hM3 := hM2.with w1 w2 w3 w4 w5 w6
          rw [← hX1, ← hY1] at hM3
          have k6 := w5 L6 _ (fun e => (hM2.o1.out _ e).2.2.2.2.1 rfl) (fun e => (hM2.o2.out _ e).2.2.2.2.1 rfl) hM2.c6
          refine ⟨_, _, k6, ⟨rfl, Nat.le_of_ble_eq_true rfl, by show (vr'.one && (vu'.one && true)) = true; rw [w1.cell.2, w2.cell.2]; rfl⟩, _, rfl, _, rfl, ?_⟩
          refine ⟨⟨by omega, by omega⟩, ?_⟩
          exact ⟨_, by omega, ci ⟨i + 1, _, L4, L5, L6, true, v2, vr', vu', _, _, rfl, ⟨rfl, rfl, rfl, rfl, rfl, rfl, rfl, trivial⟩, rfl, by omega, by omega, ⟨hM3, (hLS.tr)⟩⟩⟩
        | false =>
          obtain ⟨y, hy⟩ : ∃ y, bR[i]? = some y := by
            have : bR ≠ [] := by
              rcases hLS with ⟨-, h1, -⟩ | ⟨h, -⟩
              · exact h1
              · cases h
            have hbn : bR.length = n := by
              rcases hb with ⟨h1, -⟩ | ⟨h1, -⟩
              · exact absurd h1 this
              · exact h1
            exact ⟨_, List.getElem?_eq_getElem (by omega)⟩
          have hyl := (List.getElem?_eq_some_iff.1 hy).1
          refine ⟨by kernel_rfl, ?_⟩
          refine ⟨⟨by omega, by omega⟩, ?_⟩
          refine ⟨_, load_k rfl rfl push_cont (show [pnn a, pnn a2][0]? = some (pnn a) from rfl) (by rfl), rfl, ?_⟩
          refine ⟨_, load_liv hM2.c5 rfl rfl, rfl, ?_⟩
          refine ⟨⟨⟨by omega, by omega⟩, len_map_le (by omega)⟩, ?_⟩
          refine ⟨_, ld (at_map hy) (by show _ * 1 = i; omega), rfl, ?_⟩
          refine ⟨fun hgt => ?_, fun hle => ?_⟩
          · obtain ⟨q1, q2, q3⟩ := hLS.gt hRi hy (by omega)
            refine ⟨_, rfl, ?_⟩
            refine ⟨_, _, hM2.c6, ⟨rfl, Nat.le_of_ble_eq_true rfl, rfl⟩, _, rfl, _, rfl, ?_⟩
            refine ⟨_, load_liv (List.getElem?_set_self hM2.lt6) rfl rfl, ?_⟩
            have z1 : j < σ2.length + 1 := by have := hM2.num.jl; simpa using this
            have z2 : m < σ2.length + 1 := by have := hM2.num.ml; simpa using this
            refine endm [] (by dsimp only; omega) ⟨v2, _, false, [], [], rfl, ⟨(fun h => by cases h), fun h => ?_⟩, by simp only [List.length_set, List.length_append, List.length_cons, List.length_nil]; omega, by simp only [List.length_set, List.length_append, List.length_cons, List.length_nil]; omega, fun e => by have := hM2.num.gr.blk e; simp only [List.length_set, List.length_append, List.length_cons, List.length_nil] at this; omega, by simp only [List.length_set]; exact hM2.len, hM2.old, fun b0 => ⟨_, (fun K hK => hK), (fun h => by cases h), fun i' b' h1 h2 h3 h4 => push_old ?_, push_get⟩⟩
            · rcases h with h | h
              · exact absurd h q1
              · have hbn : bR.length = n ∧ bU.length = n := by
                  rcases hb with ⟨h1, -⟩ | h1
                  · exact absurd h1 q1
                  · exact h1
                rcases (lt_app (by rw [Rs_len, hbn.1]) (by rw [Us_len, hbn.2])).1 h with h | h
                · exact absurd h q2
                · exact absurd h.1 q3
            · have := (List.getElem?_eq_some_iff.1 h4).1
              have := hM2.l4
              have := hM2.l5
              have := hM2.l6
              rw [List.getElem?_set_ne (by omega)]
              exact hM2.keep i' b' h1 h2 h3 h4
          · refine ⟨by kernel_rfl, ?_⟩
            refine ⟨⟨by omega, by omega⟩, ?_⟩
            refine ⟨_, load_k rfl rfl push_cont (show [pnn a, pnn a2][0]? = some (pnn a) from rfl) (by rfl), rfl, ?_⟩
            refine ⟨_, load_liv hM2.c5 rfl rfl, rfl, ?_⟩
            refine ⟨⟨⟨by omega, by omega⟩, len_map_le (by omega)⟩, ?_⟩
            refine ⟨_, ld (at_map hy) (by show _ * 1 = i; omega), rfl, ?_⟩
            refine ⟨fun hlt2 => ?_, fun hge2 => ?_⟩
            · skip
              refine ⟨_, load_liv hM2.c6 rfl rfl, ?_⟩
              refine ⟨_, load_c push_cont rfl rfl, ?_⟩
              refine callm (with_cm S hS (a := a) (b := a2) hM2.gr hM2.gu hM2.sep (by rw [Xi_len]; omega) (by rw [Yi_len]; omega)) (by omega) ?_
              rintro _ σ3 ⟨vr', vu', rfl, w1, w2, w3, w4, w5, w6⟩
              have hM3 := hM2.with w1 w2 w3 w4 w5 w6
              rw [← hX1, ← hY1] at hM3
              have k6 := w5 L6 _ (fun e => (hM2.o1.out _ e).2.2.2.2.1 rfl) (fun e => (hM2.o2.out _ e).2.2.2.2.1 rfl) hM2.c6
              refine ⟨_, _, k6, ⟨rfl, Nat.le_of_ble_eq_true rfl, by show (vr'.one && (vu'.one && true)) = true; rw [w1.cell.2, w2.cell.2]; rfl⟩, _, rfl, _, rfl, ?_⟩
              refine ⟨⟨by omega, by omega⟩, ?_⟩
              exact ⟨_, by omega, ci ⟨i + 1, _, L4, L5, L6, true, v2, vr', vu', _, _, rfl, ⟨rfl, rfl, rfl, rfl, rfl, rfl, rfl, trivial⟩, rfl, by omega, by omega, ⟨hM3, (hLS.lt hRi hy (by omega))⟩⟩⟩
            · skip
              refine ⟨_, load_liv hM2.c6 rfl rfl, ?_⟩
              refine ⟨_, load_c push_cont rfl rfl, ?_⟩
              refine callm (with_cm S hS (a := a) (b := a2) hM2.gr hM2.gu hM2.sep (by rw [Xi_len]; omega) (by rw [Yi_len]; omega)) (by omega) ?_
              rintro _ σ3 ⟨vr', vu', rfl, w1, w2, w3, w4, w5, w6⟩
              have hM3 := hM2.with w1 w2 w3 w4 w5 w6
              rw [← hX1, ← hY1] at hM3
              have k6 := w5 L6 _ (fun e => (hM2.o1.out _ e).2.2.2.2.1 rfl) (fun e => (hM2.o2.out _ e).2.2.2.2.1 rfl) hM2.c6
              refine ⟨_, _, k6, ⟨rfl, Nat.le_of_ble_eq_true rfl, by show (vr'.one && (vu'.one && true)) = true; rw [w1.cell.2, w2.cell.2]; rfl⟩, _, rfl, _, rfl, ?_⟩
              refine ⟨⟨by omega, by omega⟩, ?_⟩
              exact ⟨_, by omega, ci ⟨i + 1, _, L4, L5, L6, false, v2, vr', vu', _, _, rfl, ⟨rfl, rfl, rfl, rfl, rfl, rfl, rfl, trivial⟩, rfl, by omega, by omega, ⟨hM3, (hLS.eq hRi hy (by omega))⟩⟩⟩
      · have hin : i = n := Classical.byContradiction fun hne => by
          have := bfs_more ho.pr ho.pu h0 hs hc (show i < n by omega)
          omega
        rw [hin] at hM hLS hbb
        clear hliv hcv hv
        have one1 := hM.gr.cell.2
        have one2 := hM.gu.cell.2
        have hpon : pones (PV.agg [vr, vu]).pcells = true := by show (vr.one && (vu.one && true)) = true; rw [one1, one2]; rfl
        have hgood : bR ≠ [] → bR.length = n ∧ bU.length = n := fun hne => by
          rcases hb with ⟨h1, -⟩ | h1
          · exact absurd h1 hne
          · exact h1
        cases lb with
        | true =>
          have hG : bR = [] ∨ Lt (Rs f g n s ++ Us f g n s) (bR ++ bU) := by
            rcases hLS with ⟨h1, -⟩ | ⟨-, h1 | h1⟩
            · cases h1
            · exact .inl h1
            · by_cases hne : bR = []
              · exact .inl hne
              · obtain ⟨q1, q2⟩ := hgood hne
                exact .inr ((lt_app (by rw [Rs_len, q1]) (by rw [Us_len, q2])).2 (.inl h1))
          have z1 := hM.num.jl
          have z2 := hM.num.ml
          refine ⟨by kernel_rfl, ?_⟩
          refine ⟨_, load_liv hM.c6 rfl rfl, sm_agg hM.gr hM.gu, ?_⟩
          refine ⟨_, _, hM.c6, ⟨rfl, Nat.le_of_ble_eq_true rfl, hpon⟩, _, rfl, _, set_same hM.c6, ?_⟩
          refine ⟨_, load_liv hM.c6 rfl rfl, ?_⟩
          exact endm [] (by dsimp only; omega) ⟨v, _, true, Rs f g n s, Us f g n s, rfl, ⟨fun _ => hG, fun _ => rfl⟩, by dsimp only; omega, by dsimp only; omega, fun e => by dsimp only at e; have := hM.num.gr.blk e; omega, by dsimp only; have := hM.len; omega, hM.old, fun b0 => by
            obtain ⟨σ2, f2, n2, k2, l2⟩ := hM.fin (σa := σ' ++ [b0]) (fun _ _ _ hb => push_old hb) hM.gr.cn.push hM.gu.cn.push
            rw [Xi_full, Yi_full] at f2
            exact ⟨σ2, f2, fun _ => ⟨rfl, rfl, n2⟩, k2, l2 _ _ (Nat.le_refl _) push_get⟩⟩
        | false =>
          have hE : bR ≠ [] ∧ Rs f g n s = bR := by
            rcases hLS with ⟨-, h1, h2⟩ | ⟨h1, -⟩
            · obtain ⟨q1, q2⟩ := hgood h1
              rw [List.take_of_length_le (by rw [Rs_len]; omega), List.take_of_length_le (by omega)] at h2
              exact ⟨h1, h2⟩
            · cases h1
          obtain ⟨q1, q2⟩ := hgood hE.1
          have hiff : (bR = [] ∨ Lt (Rs f g n s ++ Us f g n s) (bR ++ bU)) ↔ Lt (Us f g n s) bU := by
            rw [lt_app (by rw [Rs_len, q1]) (by rw [Us_len, q2]), hE.2]
            exact ⟨fun h => by rcases h with h | h | h; exact absurd h hE.1; exact absurd h lt_irr; exact h.2, fun h => .inr (.inr ⟨rfl, h⟩)⟩
          obtain ⟨σa, fa, ca, la, ka⟩ := hM.gu.cn.fz
          rw [pIs_NL, Yi_full] at fa
          have z1 := hM.num.jl
          have z2 := hM.num.ml
          have hfin : ∀ b0, ∃ σ2, Fz (.agg [vr, vu]) (σa ++ [b0]) (pO (Rs f g n s) (Us f g n s)) σ2 ∧ Num σ2 j m v (bfs f g s n) ∧ (∀ (i : Nat) (b : StB), i ≠ j → i ≠ m → blkOf v0 ≠ some i → σ[i]? = some b → σ2[i]? = some b) ∧ σ2[σa.length]? = some b0 := fun b0 => by
            obtain ⟨σ2, f2, n2, k2, l2⟩ := hM.fin (σa := σa ++ [b0]) (fun i b h1 h2 => push_old (ka i b h1 h2)) (hM.gr.cn.same ca).push (hM.gu.cn.same ca).push
            rw [Xi_full, Yi_full] at f2
            exact ⟨σ2, f2, n2, k2, l2 _ _ (by omega) push_get⟩
          have c6a := ka L6 _ (fun e => (hM.o2.out _ e).2.2.2.2.1 rfl) hM.c6
          refine ⟨by kernel_rfl, ?_⟩
          refine ⟨_, load_liv hM.c6 rfl rfl, sm_agg hM.gr hM.gu, ?_⟩
          refine ⟨_, load_liv hM.c6 rfl rfl, hM.gu.smP, ?_⟩
          refine ⟨_, load_liv hM.c5 rfl rfl, rfl, ?_⟩
          refine cal2 fa fzL (compareL_ct S hS (xs := Us f g n s) (ys := bU) (by rw [Us_len, q2]) (by rw [Us_len]; omega)) (by omega) ?_
          rintro _ ⟨cv, rfl, hcv⟩
          refine ⟨fun hneg => ?_, fun hpos => ?_⟩
          · refine ⟨_, _, c6a, ⟨rfl, Nat.le_of_ble_eq_true rfl, hpon⟩, _, rfl, _, set_same c6a, ?_⟩
            refine ⟨_, load_liv c6a rfl rfl, ?_⟩
            exact endm [] (by dsimp only; omega) ⟨v, _, true, Rs f g n s, Us f g n s, rfl, ⟨fun _ => hiff.2 (hcv.1 hneg), fun _ => rfl⟩, by dsimp only; omega, by dsimp only; omega, fun e => by dsimp only at e; have := hM.num.gr.blk e; omega, by dsimp only; have := hM.len; omega, hM.old, fun b0 => by
              obtain ⟨σ2, f2, n2, k2, l2⟩ := hfin b0
              exact ⟨σ2, f2, fun _ => ⟨rfl, rfl, n2⟩, k2, l2⟩⟩
          · refine ⟨_, _, c6a, ⟨rfl, Nat.le_of_ble_eq_true rfl, hpon⟩, _, rfl, _, set_same c6a, ?_⟩
            refine ⟨_, load_liv c6a rfl rfl, ?_⟩
            exact endm [] (by dsimp only; omega) ⟨v, _, false, Rs f g n s, Us f g n s, rfl, ⟨(fun h => by cases h), fun h => by have := hcv.2 (hiff.1 h); omega⟩, by dsimp only; omega, by dsimp only; omega, fun e => by dsimp only at e; have := hM.num.gr.blk e; omega, by dsimp only; have := hM.len; omega, hM.old, fun b0 => by
              obtain ⟨σ2, f2, n2, k2, l2⟩ := hfin b0
              exact ⟨σ2, f2, fun h => (by cases h), k2, l2⟩⟩
end Go.PI
