/- Own work of the verifier: PvStur PvChk PvChk2 PiTab1. -/
import Derived.Test.YtgmhmahdmbdngaaGreatDoorGvAY
import Derived.Test.YtgmhmahdmbdngaaGreatDoorGvAO
set_option linter.all false
set_option linter.deprecated false
open Go.Proofs
namespace Go.PI
open IM
theorem fn203 : ctx.fn 203 = some c203 := by kernel_rfl
set_option maxRecDepth 10000
set_option maxHeartbeats 4000000
theorem pex46 (T : List PV) (h : T.length = 46) : T = [T.getD 0 undefP, T.getD 1 undefP, T.getD 2 undefP, T.getD 3 undefP, T.getD 4 undefP, T.getD 5 undefP, T.getD 6 undefP, T.getD 7 undefP, T.getD 8 undefP, T.getD 9 undefP, T.getD 10 undefP, T.getD 11 undefP, T.getD 12 undefP, T.getD 13 undefP, T.getD 14 undefP, T.getD 15 undefP, T.getD 16 undefP, T.getD 17 undefP, T.getD 18 undefP, T.getD 19 undefP, T.getD 20 undefP, T.getD 21 undefP, T.getD 22 undefP, T.getD 23 undefP, T.getD 24 undefP, T.getD 25 undefP, T.getD 26 undefP, T.getD 27 undefP, T.getD 28 undefP, T.getD 29 undefP, T.getD 30 undefP, T.getD 31 undefP, T.getD 32 undefP, T.getD 33 undefP, T.getD 34 undefP, T.getD 35 undefP, T.getD 36 undefP, T.getD 37 undefP, T.getD 38 undefP, T.getD 39 undefP, T.getD 40 undefP, T.getD 41 undefP, T.getD 42 undefP, T.getD 43 undefP, T.getD 44 undefP, T.getD 45 undefP] := by
 have := pexpand T
 rw [h] at this
 exact this
variable (S : FuncId -> Option (List AV -> Heap -> Option (AV × Heap)))
def negI (R : List Int) (i : Nat) : List Int := (R.take i).map (fun x => -x) ++ R.drop i
theorem negI_len (R : List Int) (i : Nat) : (negI R i).length = R.length := by simp [negI]; omega
theorem negI_get {R : List Int} {i : Nat} {x : Int} (h : R[i]? = some x) : (negI R i)[i]? = some x := by
 have hi := (List.getElem?_eq_some_iff.1 h).1
 unfold negI
 rw [List.getElem?_append_right (by simp; omega)]
 simp [Nat.min_eq_left (Nat.le_of_lt hi), h]
theorem negI_set {R : List Int} {i : Nat} {x : Int} (h : R[i]? = some x) : (negI R i).set i (-x) = negI R (i + 1) := by
 have hi := (List.getElem?_eq_some_iff.1 h).1
 unfold negI
 have h1 : ((R.take i).map fun x => -x).length = i := by simp; omega
 rw [List.set_append_right _ _ (by omega), h1, Nat.sub_self, drop_of_get h, take_snoc h]
 simp
theorem negI_zero (R : List Int) : negI R 0 = R := by simp [negI]
theorem negI_full (R : List Int) : negI R R.length = R.map fun x => -x := by simp [negI]
theorem spl_one {cs : List PV} {i : Nat} {y : PV} (h : i < cs.length) : pspl cs i [y] = cs.set i y := by
 unfold pspl
 rw [List.set_eq_take_append_cons_drop, if_pos h]
 simp
theorem mid_get {σ0 : List StB} {b b' b'' : StB} {j : Nat} {x : StB} (h : σ0[j]? = some x) : ((σ0 ++ [b]).set σ0.length b' ++ [b''])[j]? = some x := by
 have hj := (List.getElem?_eq_some_iff.1 h).1
 rw [List.getElem?_append_left (by simp; omega), List.getElem?_set_ne (by omega), List.getElem?_append_left hj]
 exact h
theorem mid_cont {σ0 : List StB} {b b' b'' : StB} {j : Nat} {x : TypeId × List PV} (h : contOf σ0 j = some x) : contOf ((σ0 ++ [b]).set σ0.length b' ++ [b'']) j = some x := by
 unfold contOf at h ⊢
 cases hj : σ0[j]? with
 | none => rw [hj] at h; cases h
 | some y =>
  rw [hj] at h
  rw [mid_get hj]
  exact h
theorem old_cont {σ0 : List StB} {b : StB} {j : Nat} {x : TypeId × List PV} (h : contOf σ0 j = some x) : contOf (σ0 ++ [b]) j = some x := by
 unfold contOf at h ⊢
 cases hj : σ0[j]? with
 | none => rw [hj] at h; cases h
 | some y =>
  rw [hj] at h
  rw [push_old hj]
  exact h
theorem load_own59 {S : FuncId -> Option (List AV -> Heap -> Option (AV × Heap))} {σ : List StB} {j o q : Nat} {t : TypeId} {cs : List PV} {v : PV} (hc : contOf σ j = some (t, cs)) (hv : cs[q]? = some v) (ho : o = q) : ploadE (ctx.plus S) σ 59 (.optr j o) = some v := by
 subst ho
 show (match contOf σ j with | some (_, cs) => partP t59 cs o | none => match livOf σ j with | some (_, cs) => partP t59 cs o | none => none) = some v
 rw [hc]
 exact hv
theorem spl_at {cs : List PV} {i o : Nat} {y : PV} (ho : o = i) (h : i < cs.length) : pspl cs o [y] = cs.set i y := by rw [ho]; exact spl_one h
theorem own_u {jr l l' : Nat} (h : l = l') : PV.ownu jr l 1 = .ownu jr l' 1 := by rw [h]
theorem push_at {σ0 : List StB} {b : StB} {n : Nat} (h : n = σ0.length) : (σ0 ++ [b])[n]? = some b := by subst h; simp
theorem pones_R : ∀ Ls : List (List Int), pones (Ls.map pR) = true
 | [] => rfl
 | l :: ls => by simp only [List.map_cons, pones, pones_R ls, Bool.and_true]; rfl
theorem remP_length_lt {p q : List Int} (hq : 1 <= q.length) : (remP p.length p q).length < q.length := remP_len hq _ (Nat.le_refl _)
theorem sturm_ct (hS : OldI S) (h203 : S 203 = none) (h240 : S 240 = none) (h241 : S 241 = none) {c0 : Int} {cs : List Int} (hc : Cf (c0 :: cs)) (hl : 2 <= cs.length /\ cs.length <= 4) :
  Ct (ctx.plus S) 203 [pR (c0 :: cs)] 60000 fun r => r = pC (chP cs.length (c0 :: cs) (derL 1 cs)) := by
 refine ct_of h203 fn203 ?_
 have hdl := derL_len cs 1
 have hB0 : B2s 12 (c0 :: cs) := fun x hx => by
  have := hc x hx
  unfold B2; omega
 have hB1 : B2s 12 (derL 1 cs) := fun x hx => by
  obtain ⟨i, hi⟩ := List.getElem?_of_mem hx
  have hil := (List.getElem?_eq_some_iff.1 hi).1
  obtain ⟨e, he⟩ : ∃ e, cs[i]? = some e := ⟨cs[i]'(by omega), List.getElem?_eq_getElem _⟩
  rw [derL_get cs 1 i e he] at hi
  have heB := hc e (by simp [List.mem_of_getElem? he])
  cases hi
  have := mul_bd (a := 1 + (i : Int)) (b := e) (m := 4) (n := 1000) (by omega) heB
  unfold B2; omega
 have hS0 : ∃ ep eq, Siz (cs.length + 1) cs.length ep eq /\ 12 <= ep /\ 12 <= eq := by
  have : cs.length = 4 ∨ cs.length = 3 ∨ cs.length = 2 := by omega
  rcases this with h | h | h <;> rw [h]
  ·exact ⟨12, 12, .inl ⟨rfl, rfl, rfl, rfl⟩, by omega, by omega⟩
  ·exact ⟨12, 62, .inr (.inl ⟨rfl, by omega, by omega, rfl, rfl⟩), by omega, by omega⟩
  ·exact ⟨62, 262, .inr (.inr (.inl ⟨rfl, by omega, by omega, rfl, rfl⟩)), by omega, by omega⟩
 refine callq rfl (derivative_ct S hS h240 hc (by omega)) (by omega) ?_
 rintro _ rfl
 refine ⟨by omega, [pR (c0 :: cs), pR (derL 1 cs)], rfl, ?_⟩
 obtain ⟨ep0, eq0, hz0, h12, h12'⟩ := hS0
 refine ⟨fun m s => ∃ (pre : List (List Int)) (p q : List Int) (n ep eq jj k : Nat) (v : PV) (σ0 : List StB) (T : List PV),
  s = ⟨T, σ0, k⟩ /\ T.length = 46 /\ T.getD 3 undefP = v /\ m = q.length /\ chP cs.length (c0 :: cs) (derL 1 cs) = pre ++ chP n p q /\ q.length <= n /\ Siz p.length q.length ep eq /\ B2s ep p /\ B2s eq q /\ q.length + pre.length <= 4 /\ k <= 301 + 7000 * pre.length ∧
   ((v = .own jj 0 (pre ++ [p, q]).length (pre ++ [p, q]).length 1 /\ contOf σ0 jj = some (59, (pre ++ [p, q]).map pR)) ∨ (v = .ownu jj (pre ++ [p, q]).length 1 /\ σ0[jj]? = some (.live 59 ((pre ++ [p, q]).map pR)))), ⟨cs.length, ?_⟩, ?_⟩
 ·exact ci ⟨[], c0 :: cs, derL 1 cs, cs.length, ep0, eq0, 0, _, _, _, _, rfl, rfl, rfl, hdl.symm, rfl, by omega, by rw [hdl]; exact hz0, hB0.mono h12, hB1.mono h12', by simp; omega, by simp, .inl ⟨rfl, rfl⟩⟩
 ·rintro m s ⟨pre, p, q, n, ep, eq, jj, k, v, σ0, T, rfl, hTl, h3t, hm, hch, hn, hz, hp, hq, hpre, hk, hv⟩
  obtain ⟨J, rfl⟩ : ∃ J : Nat -> PV, T = [J 0, J 1, J 2, v, J 4, J 5, J 6, J 7, J 8, J 9, J 10, J 11, J 12, J 13, J 14, J 15, J 16, J 17, J 18, J 19, J 20, J 21, J 22, J 23, J 24, J 25, J 26, J 27, J 28, J 29, J 30, J 31, J 32, J 33, J 34, J 35, J 36, J 37, J 38, J 39, J 40, J 41, J 42, J 43, J 44, J 45] := ⟨fun i => T.getD i undefP, (pex46 T hTl).trans (by rw [h3t])⟩
  clear hTl h3t
  obtain ⟨z1, z2, z3, z4, z5, z6⟩ := hz.le
  obtain ⟨Ls, hLs⟩ : ∃ Ls, pre ++ [p, q] = Ls := ⟨_, rfl⟩
  have hLl : Ls.length = pre.length + 2 := by rw [← hLs]; simp
  have hLp : (Ls.map pR)[Ls.length - 2]? = some (pR p) := by rw [← hLs]; simp
  have hLq : (Ls.map pR)[Ls.length - 1]? = some (pR q) := by rw [← hLs]; simp
  have hmn : (p.length + 1 - q.length) * (eq + 1) <= (p.length + 1 - q.length) * (2 * eq + 1) := Nat.mul_le_mul_left _ (by omega)
  have hR := rem_cf S hS h241 (p0 := p) (q := q) (a := ep) (b := eq) hp hq (by omega) (by omega) (by omega) (by omega) (by omega)
  have hRl := remP_length_lt (p := p) (q := q) (by omega)
  have hRB := remP_bd hq (by omega) p.length hp
  have hRe : remP p.length p q = [] -> chP cs.length (c0 :: cs) (derL 1 cs) = Ls := fun h => by
   rw [hch, ← hLs]
   cases n with
   | zero => rfl
   | succ n => simp only [chP, h]
  have hRn : remP p.length p q ≠ [] -> chP cs.length (c0 :: cs) (derL 1 cs) = (pre ++ [p]) ++ chP (n - 1) q ((remP p.length p q).map fun x => -x) := fun h => by
   rw [hch]
   cases n with
   | zero => omega
   | succ n =>
    simp only [chP]
    cases hx : remP p.length p q with
    | nil => exact absurd hx h
    | cons r rs => simp
  generalize remP p.length p q = R at hR hRl hRB hRe hRn
  rw [hLs] at hv
  rcases hv with ⟨rfl, hj⟩ | ⟨rfl, hj⟩
  ·refine ⟨by kernel_rfl, ?_⟩
   refine ⟨⟨by omega, by omega⟩, ?_⟩
   refine ⟨⟨by omega, by omega⟩, ?_⟩
   refine ⟨_, load_own59 (hj) hLp (by show 0 + _ * 1 = _; omega), rfl, ?_⟩
   refine ⟨⟨by omega, by omega⟩, ?_⟩
   refine ⟨⟨by omega, by omega⟩, ?_⟩
   refine ⟨_, load_own59 (hj) hLq (by show 0 + _ * 1 = _; omega), rfl, ?_⟩
   refine callqf rfl hR (by omega) ?_
   rintro _ _ cp _ cz ⟨rfl, rfl, rfl, hcz, hc1, hc2⟩
   refine ⟨fun h0 => ?_, fun h1 => ?_⟩
   ·have hR0 : R = [] := List.eq_nil_of_length_eq_zero (by omega)
    refine ⟨[], 59, _, Ls.map pR, old_cont hj, ⟨by simp, by omega⟩, by rw [List.drop_zero, List.take_of_length_le (by simp)], ?_⟩
    show PV.lst _ _ = pC _
    rw [hRe hR0]
    rfl
   ·have hR1 : R ≠ [] := fun h => h1 (by rw [h]; rfl)
    have hRpos : 1 <= R.length := List.length_pos_iff.2 hR1
    refine ⟨fun m s => ∃ (i k' : Nat) (cw : List PV) (T : List PV), s = ⟨T, σ0 ++ [.live 22 cw], k'⟩ /\ cw.take R.length = (negI R i).map pI /\ cw.length = cz.length ∧
     T.length = 46 /\ T.getD 3 undefP = .own jj 0 Ls.length Ls.length 1 /\ T.getD 5 undefP = .own σ0.length 0 R.length cp 1 /\ T.getD 29 undefP = .own σ0.length 0 R.length cp 1 /\ T.getD 30 undefP = pn R.length /\ T.getD 31 undefP = pn (i : Int) /\ m = R.length - i /\ i <= R.length /\ k' <= k + 6000 + 8 * i, ⟨R.length, ?_⟩, ?_⟩
    ·exact ci ⟨0, _, cz, _, rfl, by rw [negI_zero]; exact hcz, rfl, rfl, rfl, rfl, rfl, rfl, rfl, by omega, by omega, by omega⟩
    ·rintro m2 s ⟨i, k', cw, T, rfl, hcw, hcl, hTl, h3t, h5t, h29t, h30t, h31t, hm2, hi, hk'⟩
     obtain ⟨J2, rfl⟩ : ∃ J : Nat -> PV, T = [J 0, J 1, J 2, .own jj 0 Ls.length Ls.length 1, J 4, .own σ0.length 0 R.length cp 1, J 6, J 7, J 8, J 9, J 10, J 11, J 12, J 13, J 14, J 15, J 16, J 17, J 18, J 19, J 20, J 21, J 22, J 23, J 24, J 25, J 26, J 27, J 28, .own σ0.length 0 R.length cp 1, pn R.length, pn (i : Int), J 32, J 33, J 34, J 35, J 36, J 37, J 38, J 39, J 40, J 41, J 42, J 43, J 44, J 45] := ⟨fun i => T.getD i undefP, (pex46 T hTl).trans (by rw [h3t, h5t, h29t, h30t, h31t])⟩
     clear hTl h3t h5t h29t h30t h31t
     refine ⟨fun hlt => ?_, fun hge => ?_⟩
     ·obtain ⟨x, hx⟩ : ∃ x, R[i]? = some x := ⟨R[i]'(by omega), List.getElem?_eq_getElem _⟩
      have hxB := hRB x (List.mem_of_getElem? hx)
      have hxd : (digits x).length <= 186 := (B2.mono (b := 4800) hxB (by omega)).dig (k := 185) (by omega)
      refine ⟨⟨by omega, by omega⟩, ?_⟩
      refine ⟨_, load_own push_cont (own_get (p := negI R i) (by rw [negI_len]; exact hcw) (negI_get hx)) (by show 0 + _ * 1 = i; omega), ?_⟩
      refine callq rfl (neg_ct S hS.h127 (X := x) (by omega)) (by omega) ?_
      rintro _ rfl
      refine ⟨⟨by omega, by omega⟩, ?_⟩
      refine ⟨_, _, push_get, ⟨rfl, by show 0 + _ * 1 + 1 <= _; omega, rfl⟩, cw.set i (pI (-x)), spl_at (by show 0 + _ * 1 = i; omega) (by omega), _, push_set, ?_⟩
      refine ⟨⟨by omega, by omega⟩, ?_⟩
      exact ⟨R.length - (i + 1), by omega, ci ⟨i + 1, _, _, _, rfl, by rw [List.take_set, hcw, ← List.map_set, negI_set hx], by rw [List.length_set, hcl], rfl, rfl, rfl, rfl, rfl, rfl, rfl, by omega, by omega⟩⟩
     ·have hin : i = R.length := by omega
      subst hin
      rw [negI_full] at hcw
      have hpr : PV.lst R.length ((R.map fun x => -x).map pI) = pR (R.map fun x => -x) := by rw [pR, List.length_map]
      have hLs2 : pre ++ [p] ++ [q, R.map fun x => -x] = Ls ++ [R.map fun x => -x] := by rw [← hLs]; simp
      obtain ⟨ep', eq', z7, z8, z9⟩ := hz.next hRpos hRl
      refine ⟨by omega, 22, cw, (R.map fun x => -x).map pI, push_cont, ⟨by omega, by omega⟩, by rw [List.drop_zero, Nat.mul_one]; exact hcw, [pR (R.map fun x => -x)], congrArg (fun z => some [z]) hpr, ?_⟩
      refine ⟨59, _, _, push_cont, by show 0 + 1 * 1 <= 1; omega, rfl, ⟨by decide, rfl⟩, ?_⟩
      refine ⟨by omega, fun h => absurd h (by omega), fun _ => ⟨by omega, 59, Ls.map pR, (Ls ++ [R.map fun x => -x]).map pR, mid_cont hj, by show 0 + _ * 1 <= _; simp, by rw [List.drop_zero, List.take_of_length_le (by show _ <= _ * 1; simp), List.map_append]; rfl, ?_⟩⟩
      refine ⟨R.length, by omega, ci ⟨pre ++ [p], q, R.map fun x => -x, n - 1, ep', eq', _, _, .ownu _ (pre ++ [p] ++ [q, R.map fun x => -x]).length 1, _, _, rfl, rfl, own_u (by rw [hLs2]; simp), by simp, hRn hR1, by simp; omega, by rw [List.length_map]; exact z7, hq.mono z8, (hRB.mono (by omega)).map_neg, by simp; omega, by simp; omega, .inr ⟨rfl, by rw [hLs2]; exact push_at (by simp)⟩⟩⟩
  ·refine ⟨by kernel_rfl, ?_⟩
   refine ⟨⟨by omega, by omega⟩, ?_⟩
   refine ⟨⟨by omega, by omega⟩, ?_⟩
   refine ⟨_, load_own59 (cont_live hj) hLp (by show 0 + _ * 1 = _; omega), rfl, ?_⟩
   refine ⟨⟨by omega, by omega⟩, ?_⟩
   refine ⟨⟨by omega, by omega⟩, ?_⟩
   refine ⟨_, load_own59 (cont_live hj) hLq (by show 0 + _ * 1 = _; omega), rfl, ?_⟩
   refine callqf rfl hR (by omega) ?_
   rintro _ _ cp _ cz ⟨rfl, rfl, rfl, hcz, hc1, hc2⟩
   refine ⟨fun h0 => ?_, fun h1 => ?_⟩
   ·have hR0 : R = [] := List.eq_nil_of_length_eq_zero (by omega)
    refine ⟨[], 59, _, Ls.map pR, old_cont (cont_live hj), ⟨by simp, fun _ => rfl⟩, by rw [List.take_of_length_le (by simp)], ?_⟩
    show PV.lst _ _ = pC _
    rw [hRe hR0]
    rfl
   ·have hR1 : R ≠ [] := fun h => h1 (by rw [h]; rfl)
    have hRpos : 1 <= R.length := List.length_pos_iff.2 hR1
    refine ⟨fun m s => ∃ (i k' : Nat) (cw : List PV) (T : List PV), s = ⟨T, σ0 ++ [.live 22 cw], k'⟩ /\ cw.take R.length = (negI R i).map pI /\ cw.length = cz.length ∧
     T.length = 46 /\ T.getD 3 undefP = .ownu jj Ls.length 1 /\ T.getD 5 undefP = .own σ0.length 0 R.length cp 1 /\ T.getD 29 undefP = .own σ0.length 0 R.length cp 1 /\ T.getD 30 undefP = pn R.length /\ T.getD 31 undefP = pn (i : Int) /\ m = R.length - i /\ i <= R.length /\ k' <= k + 6000 + 8 * i, ⟨R.length, ?_⟩, ?_⟩
    ·exact ci ⟨0, _, cz, _, rfl, by rw [negI_zero]; exact hcz, rfl, rfl, rfl, rfl, rfl, rfl, rfl, by omega, by omega, by omega⟩
    ·rintro m2 s ⟨i, k', cw, T, rfl, hcw, hcl, hTl, h3t, h5t, h29t, h30t, h31t, hm2, hi, hk'⟩
     obtain ⟨J2, rfl⟩ : ∃ J : Nat -> PV, T = [J 0, J 1, J 2, .ownu jj Ls.length 1, J 4, .own σ0.length 0 R.length cp 1, J 6, J 7, J 8, J 9, J 10, J 11, J 12, J 13, J 14, J 15, J 16, J 17, J 18, J 19, J 20, J 21, J 22, J 23, J 24, J 25, J 26, J 27, J 28, .own σ0.length 0 R.length cp 1, pn R.length, pn (i : Int), J 32, J 33, J 34, J 35, J 36, J 37, J 38, J 39, J 40, J 41, J 42, J 43, J 44, J 45] := ⟨fun i => T.getD i undefP, (pex46 T hTl).trans (by rw [h3t, h5t, h29t, h30t, h31t])⟩
     clear hTl h3t h5t h29t h30t h31t
     refine ⟨fun hlt => ?_, fun hge => ?_⟩
     ·obtain ⟨x, hx⟩ : ∃ x, R[i]? = some x := ⟨R[i]'(by omega), List.getElem?_eq_getElem _⟩
      have hxB := hRB x (List.mem_of_getElem? hx)
      have hxd : (digits x).length <= 186 := (B2.mono (b := 4800) hxB (by omega)).dig (k := 185) (by omega)
      refine ⟨⟨by omega, by omega⟩, ?_⟩
      refine ⟨_, load_own push_cont (own_get (p := negI R i) (by rw [negI_len]; exact hcw) (negI_get hx)) (by show 0 + _ * 1 = i; omega), ?_⟩
      refine callq rfl (neg_ct S hS.h127 (X := x) (by omega)) (by omega) ?_
      rintro _ rfl
      refine ⟨⟨by omega, by omega⟩, ?_⟩
      refine ⟨_, _, push_get, ⟨rfl, by show 0 + _ * 1 + 1 <= _; omega, rfl⟩, cw.set i (pI (-x)), spl_at (by show 0 + _ * 1 = i; omega) (by omega), _, push_set, ?_⟩
      refine ⟨⟨by omega, by omega⟩, ?_⟩
      exact ⟨R.length - (i + 1), by omega, ci ⟨i + 1, _, _, _, rfl, by rw [List.take_set, hcw, ← List.map_set, negI_set hx], by rw [List.length_set, hcl], rfl, rfl, rfl, rfl, rfl, rfl, rfl, by omega, by omega⟩⟩
     ·have hin : i = R.length := by omega
      subst hin
      rw [negI_full] at hcw
      have hpr : PV.lst R.length ((R.map fun x => -x).map pI) = pR (R.map fun x => -x) := by rw [pR, List.length_map]
      have hLs2 : pre ++ [p] ++ [q, R.map fun x => -x] = Ls ++ [R.map fun x => -x] := by rw [← hLs]; simp
      obtain ⟨ep', eq', z7, z8, z9⟩ := hz.next hRpos hRl
      refine ⟨by omega, 22, cw, (R.map fun x => -x).map pI, push_cont, ⟨by omega, by omega⟩, by rw [List.drop_zero, Nat.mul_one]; exact hcw, [pR (R.map fun x => -x)], congrArg (fun z => some [z]) hpr, ?_⟩
      refine ⟨59, _, _, push_cont, by show 0 + 1 * 1 <= 1; omega, rfl, ⟨by decide, rfl⟩, ?_⟩
      refine ⟨⟨by omega, rfl, by omega⟩, Ls.map pR, (Ls ++ [R.map fun x => -x]).map pR, mid_get hj, by show _ * 1 <= _; simp, by rw [List.take_of_length_le (by show _ <= _ * 1; simp), List.map_append]; rfl, ?_⟩
      refine ⟨R.length, by omega, ci ⟨pre ++ [p], q, R.map fun x => -x, n - 1, ep', eq', _, _, .ownu _ (pre ++ [p] ++ [q, R.map fun x => -x]).length 1, _, _, rfl, rfl, own_u (by rw [hLs2]; simp), by simp, hRn hR1, by simp; omega, by rw [List.length_map]; exact z7, hq.mono z8, (hRB.mono (by omega)).map_neg, by simp; omega, by simp; omega, .inr ⟨rfl, by rw [hLs2]; exact push_at (by simp)⟩⟩⟩
end Go.PI
open Go.Proofs
namespace Go.PI
open IM
theorem fn204 : ctx.fn 204 = some c204 := by kernel_rfl
theorem fn139 : ctx.fn 139 = some c139 := by kernel_rfl
theorem fn137 : ctx.fn 137 = some c137 := by kernel_rfl
theorem fn45 : ctx.fn 45 = some c45 := by kernel_rfl
set_option maxRecDepth 10000
set_option maxHeartbeats 4000000
variable (S : FuncId -> Option (List AV -> Heap -> Option (AV × Heap)))
def pF (P : List Int) (lo hi den : Int) : PV := .agg [pIs P, pn lo, pn hi, pn den]
theorem chP_mem : ∀ (n : Nat) {p q : List Int} {ep eq : Nat}, Siz p.length q.length ep eq -> B2s ep p -> B2s eq q -> ∀ L ∈ chP n p q, B2s 4800 L /\ L.length <= 5
 | 0, p, q, ep, eq, hz, hp, hq, L, hL => by
  obtain ⟨z1, z2, z3, z4, z5, z6⟩ := hz.le
  simp only [chP, List.mem_cons, List.not_mem_nil, or_false] at hL
  rcases hL with rfl | rfl
  ·exact ⟨hp.mono (by omega), by omega⟩
  ·exact ⟨hq.mono (by omega), by omega⟩
 | n + 1, p, q, ep, eq, hz, hp, hq, L, hL => by
  obtain ⟨z1, z2, z3, z4, z5, z6⟩ := hz.le
  simp only [chP] at hL
  have hRl := remP_length_lt (p := p) (q := q) (by omega)
  have hRB := remP_bd hq (by omega) p.length hp
  have hmn : (p.length + 1 - q.length) * (eq + 1) <= (p.length + 1 - q.length) * (2 * eq + 1) := Nat.mul_le_mul_left _ (by omega)
  cases hR : remP p.length p q with
  | nil =>
   rw [hR] at hL
   simp only [List.mem_cons, List.not_mem_nil, or_false] at hL
   rcases hL with rfl | rfl
   ·exact ⟨hp.mono (by omega), by omega⟩
   ·exact ⟨hq.mono (by omega), by omega⟩
  | cons r rs =>
   rw [hR] at hL hRl hRB
   simp only [List.mem_cons] at hL
   rcases hL with rfl | hL
   ·exact ⟨hp.mono (by omega), by omega⟩
   ·obtain ⟨ep', eq', z7, z8, z9⟩ := hz.next (l := (r :: rs).length) (by simp) hRl
    exact chP_mem n (by rw [List.length_map]; exact z7) (hq.mono z8) (hRB.mono (by omega)).map_neg L hL
theorem chP_length : ∀ (n : Nat) (p q : List Int), (chP n p q).length <= n + 2
 | 0, p, q => by simp [chP]
 | n + 1, p, q => by
  simp only [chP]
  split
  ·simp
  ·rename_i r rs _
   have := chP_length n q ((r :: rs).map fun x => -x)
   simp only [List.length_cons]
   omega
theorem varP_bd : ∀ (ss : List Int) (b : Int), 0 <= varP ss b /\ varP ss b <= ss.length
 | [], _ => by simp [varP]
 | s :: ss, b => by
  have := varP_bd ss (if s = 0 then b else s)
  simp only [varP, List.length_cons]
  split <;> omega
theorem variations_ct (hS : OldI S) (h204 : S 204 = none) (h242 : S 242 = none) {Ls : List (List Int)} {a b : Int} (ha : -1000000 <= a /\ a <= 1000000) (hb : -1000000 <= b /\ b <= 1000000) (hL : ∀ L ∈ Ls, B2s 4800 L /\ L.length <= 5) (hl : Ls.length <= 6) :
  Ct (ctx.plus S) 204 [pC Ls, pI a, pI b] 10000 fun r => r = pn (varP (sgs a b Ls) 0) := by
 refine ct_of h204 fn204 ?_
 have hsl : (sgs a b Ls).length = Ls.length := by simp [sgs]
 refine ⟨fun m s => ∃ (i k : Nat) (n bf : Int) (j3 j4 j5 j6 j9 ja jb jf jg jh ji jj jk jl jm jn jo jp jq jr js jt ju jv jw jx : PV),
  s = ⟨[pC Ls, pI a, pI b, j3, j4, j5, j6, pn n, pn bf, j9, ja, jb, pC Ls, pn Ls.length, pn (i : Int), jf, jg, jh, ji, jj, jk, jl, jm, jn, jo, jp, jq, jr, js, jt, ju, jv, jw, jx], [], k⟩ /\ m = Ls.length - i /\ i <= Ls.length /\ n + varP ((sgs a b Ls).drop i) bf = varP (sgs a b Ls) 0 /\ (bf = -1 ∨ bf = 0 ∨ bf = 1) /\ (0 <= n /\ n <= i) /\ k <= 1000 * i, ⟨Ls.length, ?_⟩, ?_⟩
 ·exact ci ⟨0, _, 0, 0, _, _, _, _, _, _, _, _, _, _, _, _, _, _, _, _, _, _, _, _, _, _, _, _, _, _, rfl, rfl, by omega, by simp, .inr (.inl rfl), by omega, by omega⟩
 ·rintro m s ⟨i, k, n, bf, j3, j4, j5, j6, j9, ja, jb, jf, jg, jh, ji, jj, jk, jl, jm, jn, jo, jp, jq, jr, js, jt, ju, jv, jw, jx, rfl, hm, hi, hv, hbf, hn, hk⟩
  refine ⟨fun hlt => ?_, fun hge => ?_⟩
  ·obtain ⟨L, hLi⟩ : ∃ L, Ls[i]? = some L := ⟨Ls[i]'(by omega), List.getElem?_eq_getElem _⟩
   obtain ⟨hLB, hLl⟩ := hL L (List.mem_of_getElem? hLi)
   have hp := pw_two26 185
   have hp1 : pw 186 = 100000000 * pw 185 := rfl
   have hp2 := pw_pos 185
   have hp3 := two_mono (show 4800 <= 26 * 185 by omega)
   have hLw : ∀ c ∈ L, -pw 186 < c /\ c < pw 186 := fun c hc => by
    have := hLB c hc
    unfold B2 at this
    omega
   obtain ⟨X, hX⟩ : ∃ X, (vS L a b).1 = X := ⟨_, rfl⟩
   have hXd : (digits X).length <= 200 := by
    have h1 := (vS_bound (k := 186) ha hb L hLw).1
    have h2 := pw_mono (show 186 + L.length <= 200 by omega)
    rw [hX] at h1
    exact len_of (by omega)
   obtain ⟨s, hs⟩ : ∃ s, Int.sign X = s := ⟨_, rfl⟩
   have hsd : (sgs a b Ls)[i]? = some s := by simp [sgs, hLi, hX, hs]
   have hsg : s = -1 ∨ s = 0 ∨ s = 1 := sgs_small s (List.mem_of_getElem? hsd)
   rw [drop_of_get hsd] at hv
   simp only [varP] at hv
   have step : ∀ (n' k' : Nat) (bf' : Int), bf' = (if s = 0 then bf else s) -> bf' = -1 ∨ bf' = 0 ∨ bf' = 1 := fun n' k' bf' h => by
    rw [h]; split <;> assumption
   refine ⟨⟨⟨by omega, by omega⟩, len_map_le (by omega)⟩, ?_⟩
   refine ⟨_, ld (at_map hLi) (by show _ * 1 = i; omega), ?_⟩
   refine callq rfl ((valueAt_ct S hS h242 (L := L) ha hb hLw (by omega) (by omega)).post fun r h => h.trans (congrArg pI hX)) (by omega) ?_
   rintro _ rfl
   refine callq rfl ((sign_ct S hS.o.h125 (X := X) (by omega)).post fun r h => h.trans (congrArg pn hs)) (by omega) ?_
   rintro _ rfl
   have hsb : -1 <= s * bf /\ s * bf <= 1 := by
    rcases hsg with rfl | rfl | rfl <;> rcases hbf with rfl | rfl | rfl <;> decide
   refine ⟨⟨by omega, by omega⟩, ?_⟩
   refine ⟨fun hneg => ?_, fun hpos => ?_⟩
   ·rw [if_pos hneg] at hv
    refine ⟨⟨by omega, by omega⟩, ?_⟩
    refine ⟨fun h0 => ?_, fun h0 => ?_⟩
    ·rw [if_neg h0] at hv
     refine ⟨⟨by omega, by omega⟩, ?_⟩
     exact ⟨Ls.length - (i + 1), by omega, ci ⟨i + 1, _, _, s, _, _, _, _, _, _, _, _, _, _, _, _, _, _, _, _, _, _, _, _, _, _, _, _, _, _, rfl, rfl, by omega, by omega, hsg, by omega, by omega⟩⟩
    ·rw [if_pos h0] at hv
     refine ⟨⟨by omega, by omega⟩, ?_⟩
     exact ⟨Ls.length - (i + 1), by omega, ci ⟨i + 1, _, _, bf, _, _, _, _, _, _, _, _, _, _, _, _, _, _, _, _, _, _, _, _, _, _, _, _, _, _, rfl, rfl, by omega, by omega, hbf, by omega, by omega⟩⟩
   ·rw [if_neg (by omega)] at hv
    refine ⟨fun h0 => ?_, fun h0 => ?_⟩
    ·rw [if_neg h0] at hv
     refine ⟨⟨by omega, by omega⟩, ?_⟩
     exact ⟨Ls.length - (i + 1), by omega, ci ⟨i + 1, _, _, s, _, _, _, _, _, _, _, _, _, _, _, _, _, _, _, _, _, _, _, _, _, _, _, _, _, _, rfl, rfl, by omega, by omega, hsg, by omega, by omega⟩⟩
    ·rw [if_pos h0] at hv
     refine ⟨⟨by omega, by omega⟩, ?_⟩
     exact ⟨Ls.length - (i + 1), by omega, ci ⟨i + 1, _, _, bf, _, _, _, _, _, _, _, _, _, _, _, _, _, _, _, _, _, _, _, _, _, _, _, _, _, _, rfl, rfl, by omega, by omega, hbf, by omega, by omega⟩⟩
  ·have e : i = Ls.length := by omega
   subst e
   rw [List.drop_eq_nil_of_le (by omega)] at hv
   simp only [varP, Int.add_zero] at hv
   subst hv
   exact endq rfl rfl
theorem within_ct (h : S 140 = none) {n a b : Int} : Ct (ctx.plus S) 140 [pn n, pn a, pn b] 0 fun r => ((a <= n /\ n <= b) /\ r = .bool true) ∨ (¬ (a <= n /\ n <= b) /\ r = .bool false) := by
 intro H W avs hw hr hl
 cases hr with
 | cons h1 hr => cases hr with
  | cons h2 hr => cases hr with
   | cons h3 hr =>
    cases hr
    cases h1
    cases h2
    cases h3
    refine (within_run S h).mono ?_
    rintro _ _ ⟨rfl, rfl⟩
    by_cases hc : a <= n /\ n <= b
    ·rw [decide_eq_true hc]; exact ⟨_, .inl ⟨hc, rfl⟩, .bool _, KpH.refl _ _⟩
    ·rw [decide_eq_false hc]; exact ⟨_, .inr ⟨hc, rfl⟩, .bool _, KpH.refl _ _⟩
def OneP (P : List Int) (lo hi den : Int) : Prop :=
 (P.length = 2 /\ lo <= (0 - P.getD 0 0) * den /\ (0 - P.getD 0 0) * den <= hi) ∨
 (P.length ≠ 2 /\ ∃ c0 cs, P = c0 :: cs /\ varP (sgs lo den (chP cs.length (c0 :: cs) (derL 1 cs))) 0 - varP (sgs hi den (chP cs.length (c0 :: cs) (derL 1 cs))) 0 = 1)
structure OldC (S : FuncId -> Option (List AV -> Heap -> Option (AV × Heap))) : Prop where
 i : OldI S
 h134 : S 134 = none
 h137 : S 137 = none
 h139 : S 139 = none
 h140 : S 140 = none
 h203 : S 203 = none
 h204 : S 204 = none
 h240 : S 240 = none
 h241 : S 241 = none
 h242 : S 242 = none
theorem chP_siz {c0 : Int} {cs : List Int} (hc : Cf (c0 :: cs)) (hl : 2 <= cs.length /\ cs.length <= 4) : ∃ ep eq, Siz (c0 :: cs).length (derL 1 cs).length ep eq /\ B2s ep (c0 :: cs) /\ B2s eq (derL 1 cs) := by
 have hdl := derL_len cs 1
 have hB0 : B2s 12 (c0 :: cs) := fun x hx => by
  have := hc x hx
  unfold B2; omega
 have hB1 : B2s 12 (derL 1 cs) := fun x hx => by
  obtain ⟨i, hi⟩ := List.getElem?_of_mem hx
  have hil := (List.getElem?_eq_some_iff.1 hi).1
  obtain ⟨e, he⟩ : ∃ e, cs[i]? = some e := ⟨cs[i]'(by omega), List.getElem?_eq_getElem _⟩
  rw [derL_get cs 1 i e he] at hi
  have heB := hc e (by simp [List.mem_of_getElem? he])
  cases hi
  have := mul_bd (a := 1 + (i : Int)) (b := e) (m := 4) (n := 1000) (by omega) heB
  unfold B2; omega
 have : cs.length = 4 ∨ cs.length = 3 ∨ cs.length = 2 := by omega
 rw [hdl, List.length_cons]
 rcases this with h | h | h <;> rw [h]
 ·exact ⟨12, 12, .inl ⟨rfl, rfl, rfl, rfl⟩, hB0, hB1⟩
 ·exact ⟨12, 62, .inr (.inl ⟨rfl, by omega, by omega, rfl, rfl⟩), hB0, hB1.mono (by omega)⟩
 ·exact ⟨62, 262, .inr (.inr (.inl ⟨rfl, by omega, by omega, rfl, rfl⟩)), hB0.mono (by omega), hB1.mono (by omega)⟩
theorem oneRoot_ct (hS : OldC S) {P : List Int} {lo hi den : Int} (hc : Cf P) (hl : 2 <= P.length /\ P.length <= 5) (hlo : -1000000 <= lo /\ lo <= 1000000) (hhi : -1000000 <= hi /\ hi <= 1000000) (hden : 1 <= den /\ den <= 1000000) :
  Ct (ctx.plus S) 139 [pF P lo hi den] 100000 fun r => (OneP P lo hi den /\ r = .bool true) ∨ (¬ OneP P lo hi den /\ r = .bool false) := by
 refine ct_of hS.h139 fn139 ?_
 refine ⟨by omega, ?_⟩
 refine ⟨_, rfl, ?_⟩
 refine ⟨fun h2 => ?_, fun h2 => ?_⟩
 ·have hP := get_at (p := P) (i := 0) (by omega)
  have hB := hc _ (List.mem_of_getElem? hP)
  have hm := mul_bd (a := 0 - P.getD 0 0) (b := den) (m := 1000) (n := 1000000) (by omega) (by omega)
  refine ⟨by kernel_rfl, ?_⟩
  refine ⟨_, rfl, rfl, ?_⟩
  refine ⟨⟨⟨by omega, by omega⟩, len_map_le (by omega)⟩, ?_⟩
  refine ⟨_, ld (at_map hP) rfl, rfl, ?_⟩
  refine ⟨⟨by omega, by omega⟩, ?_⟩
  refine ⟨_, rfl, rfl, ?_⟩
  refine ⟨⟨by omega, by omega⟩, ?_⟩
  refine ⟨_, rfl, rfl, ?_⟩
  refine ⟨_, rfl, rfl, ?_⟩
  refine callq rfl (within_ct S hS.h140) (by omega) ?_
  rintro _ (⟨h, rfl⟩ | ⟨h, rfl⟩)
  ·exact endq rfl (.inl ⟨.inl ⟨by omega, h⟩, rfl⟩)
  ·refine endq rfl (.inr ⟨fun hh => ?_, rfl⟩)
   rcases hh with ⟨-, hh⟩ | ⟨hh, -⟩
   ·exact h hh
   ·omega
 ·obtain ⟨c0, cs, rfl⟩ : ∃ c0 cs, P = c0 :: cs := by
   cases P with
   | nil => simp at hl
   | cons c0 cs => exact ⟨c0, cs, rfl⟩
  have hl2 : 2 <= cs.length /\ cs.length <= 4 := by simp at hl h2; omega
  obtain ⟨ep, eq, hz, hB0, hB1⟩ := chP_siz hc hl2
  have hmem := chP_mem cs.length hz hB0 hB1
  have hcl := chP_length cs.length (c0 :: cs) (derL 1 cs)
  have hv1 := varP_bd (sgs lo den (chP cs.length (c0 :: cs) (derL 1 cs))) 0
  have hv2 := varP_bd (sgs hi den (chP cs.length (c0 :: cs) (derL 1 cs))) 0
  have hs1 : (sgs lo den (chP cs.length (c0 :: cs) (derL 1 cs))).length <= 6 := by simp [sgs]; omega
  have hs2 : (sgs hi den (chP cs.length (c0 :: cs) (derL 1 cs))).length <= 6 := by simp [sgs]; omega
  refine ⟨_, rfl, ?_⟩
  refine callq rfl (lists_ct S hS.i hS.h134 hc (by omega)) (by omega) ?_
  rintro _ rfl
  refine callq rfl (sturm_ct S hS.i hS.h203 hS.h240 hS.h241 hc hl2) (by omega) ?_
  rintro _ rfl
  refine ⟨by kernel_rfl, ?_⟩
  refine ⟨_, rfl, rfl, ?_⟩
  refine callq rfl (of_ct S hS.i.o hS.i.h26 (n := lo) (by unfold In64; omega)) (by omega) ?_
  rintro _ rfl
  refine ⟨_, rfl, rfl, ?_⟩
  refine callq rfl (of_ct S hS.i.o hS.i.h26 (n := den) (by unfold In64; omega)) (by omega) ?_
  rintro _ rfl
  refine callq rfl (variations_ct S hS.i hS.h204 hS.h242 (a := lo) (b := den) hlo (by omega) hmem (by omega)) (by omega) ?_
  rintro _ rfl
  refine ⟨_, rfl, rfl, ?_⟩
  refine callq rfl (of_ct S hS.i.o hS.i.h26 (n := hi) (by unfold In64; omega)) (by omega) ?_
  rintro _ rfl
  refine ⟨_, rfl, rfl, ?_⟩
  refine callq rfl (of_ct S hS.i.o hS.i.h26 (n := den) (by unfold In64; omega)) (by omega) ?_
  rintro _ rfl
  refine callq rfl (variations_ct S hS.i hS.h204 hS.h242 (a := hi) (b := den) hhi (by omega) hmem (by omega)) (by omega) ?_
  rintro _ rfl
  refine ⟨⟨by omega, by omega⟩, ?_⟩
  refine ⟨fun h1 => ?_, fun h1 => ?_⟩
  ·exact endq rfl (.inl ⟨.inr ⟨by omega, c0, cs, rfl, h1⟩, rfl⟩)
  ·refine endq rfl (.inr ⟨fun hh => ?_, rfl⟩)
   rcases hh with ⟨hh, -⟩ | ⟨-, d0, ds, e, hh⟩
   ·omega
   ·cases e
    exact h1 hh
end Go.PI
open Go.Proofs
namespace Go.PI
open IM
set_option maxRecDepth 10000
set_option maxHeartbeats 4000000
variable (S : FuncId -> Option (List AV -> Heap -> Option (AV × Heap)))
def InR (P : List Int) (lo hi den : Int) : Prop := Cf P /\ (1 <= den /\ den <= 1000000) /\ (-1000000 <= lo /\ lo <= 1000000) /\ (-1000000 <= hi /\ hi <= 1000000)
theorem inRange_ct (hS : OldC S) {P : List Int} {lo hi den : Int} (hl : P.length <= 8) : Ct (ctx.plus S) 137 [pF P lo hi den] 100 fun r => (InR P lo hi den /\ r = .bool true) ∨ (¬ InR P lo hi den /\ r = .bool false) := by
 refine ct_of hS.h137 fn137 ?_
 refine ⟨by omega, ?_⟩
 refine ⟨_, rfl, ?_⟩
 refine ⟨fun m s => ∃ (i : Nat) (j2 j3 j4 j5 j9 ja jb jc jd je jf jg jh ji jj jk jl jm jn jo jp jq jr js : PV),
  s = ⟨[pF P lo hi den, .optr 0 0, j2, j3, j4, j5, pIs P, pn P.length, pn (i : Int), j9, ja, jb, jc, jd, je, jf, jg, jh, ji, jj, jk, jl, jm, jn, jo, jp, jq, jr, js], [.live 46 [pIs P, pn lo, pn hi, pn den]], 1⟩ /\ m = P.length - i /\ i <= P.length /\ (∀ j x, j < i -> P[j]? = some x -> -1000 <= x /\ x <= 1000), ⟨P.length, ?_⟩, ?_⟩
 ·exact ci ⟨0, _, _, _, _, _, _, _, _, _, _, _, _, _, _, _, _, _, _, _, _, _, _, _, _, rfl, rfl, by omega, fun j x h => by omega⟩
 ·rintro m s ⟨i, j2, j3, j4, j5, j9, ja, jb, jc, jd, je, jf, jg, jh, ji, jj, jk, jl, jm, jn, jo, jp, jq, jr, js, rfl, hm, hi, hok⟩
  refine ⟨fun hlt => ?_, fun hge => ?_⟩
  ·obtain ⟨x, hx⟩ : ∃ x, P[i]? = some x := ⟨P[i]'(by omega), List.getElem?_eq_getElem _⟩
   refine ⟨⟨⟨by omega, by omega⟩, len_map_le (by omega)⟩, ?_⟩
   refine ⟨_, ld (at_map hx) (by show _ * 1 = i; omega), ?_⟩
   refine callq rfl (within_ct S hS.h140) (by omega) ?_
   rintro _ (⟨h, rfl⟩ | ⟨h, rfl⟩)
   ·refine ⟨⟨by omega, by omega⟩, ?_⟩
    refine ⟨P.length - (i + 1), by omega, ci ⟨i + 1, _, _, _, _, _, _, _, _, _, _, _, _, _, _, _, _, _, _, _, _, _, _, _, _, rfl, rfl, by omega, fun j y hj hy => ?_⟩⟩
    by_cases hji : j = i
    ·subst hji
     rw [hx] at hy
     cases hy
     exact h
    ·exact hok j y (by omega) hy
   ·exact endq rfl (.inr ⟨fun hh => h (hh.1 x (List.mem_of_getElem? hx)), rfl⟩)
  ·have hcf : Cf P := fun c hc => by
    obtain ⟨j, hj⟩ := List.getElem?_of_mem hc
    exact hok j c (by have := (List.getElem?_eq_some_iff.1 hj).1; omega) hj
   refine ⟨_, rfl, ?_⟩
   refine callq rfl (within_ct S hS.h140) (by omega) ?_
   rintro _ (⟨h1, rfl⟩ | ⟨h1, rfl⟩)
   ·refine ⟨_, rfl, ?_⟩
    refine callq rfl (within_ct S hS.h140) (by omega) ?_
    rintro _ (⟨h2, rfl⟩ | ⟨h2, rfl⟩)
    ·refine ⟨_, rfl, ?_⟩
     refine callq rfl (within_ct S hS.h140) (by omega) ?_
     rintro _ (⟨h3, rfl⟩ | ⟨h3, rfl⟩)
     ·exact endq rfl (.inl ⟨⟨hcf, h1, h2, h3⟩, rfl⟩)
     ·exact endq rfl (.inr ⟨fun hh => h3 hh.2.2.2, rfl⟩)
    ·exact endq rfl (.inr ⟨fun hh => h2 hh.2.2.1, rfl⟩)
   ·exact endq rfl (.inr ⟨fun hh => h1 hh.2.1, rfl⟩)
structure OldK (S : FuncId -> Option (List AV -> Heap -> Option (AV × Heap))) : Prop where
 c : OldC S
 h45 : S 45 = none
 h138 : S 138 = none
 h200 : S 200 = none
 h238 : S 238 = none
 h201 : S 201 = none
 h202 : S 202 = none
 h239 : S 239 = none
 h141 : S 141 = none
 h205 : S 205 = none
 h206 : S 206 = none
 h182 : S 182 = none
 h228 : S 228 = none
theorem hasDiv_ct (hS : OldK S) {p0 : Int} {cs : List Int} (hc : Cf (p0 :: cs)) (hl : 1 <= cs.length /\ cs.length <= 4) (hm : cs.length = 4 -> ∃ p1 p2 p3, cs = [p1, p2, p3, 1]) :
  Ct (ctx.plus S) 138 [pIs (p0 :: cs)] 3000 fun r => ((cs.length ≠ 1 /\ HasP (p0 :: cs)) /\ r = .bool true) ∨ (¬ (cs.length ≠ 1 /\ HasP (p0 :: cs)) /\ r = .bool false) := by
 intro H W avs hw hr hn
 cases hr with
 | cons h1 hr =>
  cases hr
  refine (hasDiv_run S hS.h138 hS.h200 hS.h238 hS.h201 hS.h182 hS.h228 hS.h202 hS.h239 hS.h141 hS.h205 hS.h206 hn (sl_rel h1).1 hc hl hm).mono ?_
  rintro _ H' ⟨⟨β, rfl, hβ⟩, k⟩
  refine ⟨.bool β, ?_, .bool _, kp_of (k.le (by omega))⟩
  cases β with
  | true => exact .inl ⟨hβ.1 rfl, rfl⟩
  | false => exact .inr ⟨fun h => (by have := hβ.2 h; cases this), rfl⟩
inductive CkE (shape inr form order one : Prop) : Int -> Prop
 | shape : shape -> CkE shape inr form order one 10
 | range : ¬ shape -> ¬ inr -> CkE shape inr form order one 2
 | form : ¬ shape -> inr -> form -> CkE shape inr form order one 3
 | order : ¬ shape -> inr -> ¬ form -> order -> CkE shape inr form order one 9
 | none : ¬ shape -> inr -> ¬ form -> ¬ order -> ¬ one -> CkE shape inr form order one 11
 | ok : ¬ shape -> inr -> ¬ form -> ¬ order -> one -> CkE shape inr form order one 0
def CkP (P : List Int) (lo hi den : Int) : Int -> Prop := CkE (P.length < 2 ∨ 5 < P.length) (InR P lo hi den) (P.getD (P.length - 1) 0 ≠ 1 ∨ (P.length ≠ 2 /\ HasP P)) (hi < lo) (OneP P lo hi den)
theorem check_ct (hS : OldK S) {P : List Int} {lo hi den : Int} (hl : P.length <= 8) : Ct (ctx.plus S) 45 [pF P lo hi den] 200000 fun r => ∃ e, CkP P lo hi den e /\ r = pn e := by
 refine ct_of hS.h45 fn45 ?_
 refine ⟨by omega, ?_⟩
 refine ⟨_, rfl, ?_⟩
 refine ⟨⟨by omega, by omega⟩, ?_⟩
 refine ⟨fun h1 => ?_, fun h1 => ?_⟩
 ·exact endq rfl ⟨_, .shape (.inl (by omega)), rfl⟩
 refine ⟨fun h2 => ?_, fun h2 => ?_⟩
 ·exact endq rfl ⟨_, .shape (.inr (by omega)), rfl⟩
 have hsh : ¬ (P.length < 2 ∨ 5 < P.length) := by omega
 refine ⟨pF P lo hi den, rfl, ?_⟩
 refine callq rfl (inRange_ct S hS.c hl) (by omega) ?_
 rintro _ (⟨hin, rfl⟩ | ⟨hin, rfl⟩)
 ·obtain ⟨p0, cs, rfl⟩ : ∃ c0 cs, P = c0 :: cs := by
   cases P with
   | nil => simp at h1
   | cons c0 cs => exact ⟨c0, cs, rfl⟩
  have hlast := get_at (p := p0 :: cs) (i := (p0 :: cs).length - 1) (by simp)
  have hl2 : 1 <= cs.length /\ cs.length <= 4 := by simp at hsh; omega
  refine ⟨_, rfl, ?_⟩
  refine ⟨⟨⟨by omega, by omega⟩, len_map_le (by omega)⟩, ?_⟩
  refine ⟨_, ld (at_map hlast) (by show _ * 1 = _; omega), ?_⟩
  refine ⟨fun hne => ?_, fun heq => ?_⟩
  ·exact endq rfl ⟨_, .form hsh hin (.inl hne), rfl⟩
  have hm : cs.length = 4 -> ∃ p1 p2 p3, cs = [p1, p2, p3, 1] := fun h4 => by
   match cs, h4 with
   | [p1, p2, p3, p4], _ =>
    simp at heq
    exact ⟨p1, p2, p3, by rw [heq]⟩
  refine ⟨_, rfl, ?_⟩
  refine callq rfl (hasDiv_ct S hS hin.1 hl2 hm) (by omega) ?_
  rintro _ (⟨hd, rfl⟩ | ⟨hd, rfl⟩)
  ·exact endq rfl ⟨_, .form hsh hin (.inr ⟨by simp; omega, hd.2⟩), rfl⟩
  have hfm : ¬ ((p0 :: cs).getD ((p0 :: cs).length - 1) 0 ≠ 1 ∨ ((p0 :: cs).length ≠ 2 /\ HasP (p0 :: cs))) := fun h => by
   rcases h with h | h
   ·exact h heq
   ·exact hd ⟨by have := h.1; simp at this; omega, h.2⟩
  refine ⟨_, rfl, ?_⟩
  refine ⟨_, rfl, ?_⟩
  refine ⟨fun ho => ?_, fun ho => ?_⟩
  ·exact endq rfl ⟨_, .order hsh hin hfm ho, rfl⟩
  refine ⟨pF (p0 :: cs) lo hi den, rfl, ?_⟩
  refine callq rfl (oneRoot_ct S hS.c hin.1 (by omega) hin.2.2.1 hin.2.2.2 hin.2.1) (by omega) ?_
  rintro _ (⟨h1, rfl⟩ | ⟨h1, rfl⟩)
  ·exact endq rfl ⟨_, .ok hsh hin hfm (by omega) h1, rfl⟩
  ·exact endq rfl ⟨_, .none hsh hin hfm (by omega) h1, rfl⟩
 ·exact endq rfl ⟨_, .range hsh hin, rfl⟩
end Go.PI
open Go.Proofs
namespace Go.PI
open IM
def sum1 (g : List Int -> AV -> Heap -> Option (AV × Heap)) (us : List AV) (H : Heap) : Option (AV × Heap) :=
  match us with
  | [v] => match getL H v with
    | some xs => whenB (shortB xs && roomB H) (g xs v H)
    | none => none
  | _ => none
theorem sum1_some {g : List Int -> AV -> Heap -> Option (AV × Heap)} {us : List AV} {H H' : Heap} {r : AV} (h : sum1 g us H = some (r, H')) : ∃ v xs, us = [v] /\ Sl H v xs /\ xs.length <= 1000000 /\ H.n <= 274877906944 /\ g xs v H = some (r, H') := by
  unfold sum1 at h
  split at h
  · rename_i v
    split at h
    · rename_i xs hx
      obtain ⟨h1, h2⟩ := whenB_some h
      simp only [Bool.and_eq_true] at h1
      exact ⟨v, xs, rfl, getL_sl hx, shortB_le h1.1, roomB_lt h1.2, h2⟩
    · cases h
  · cases h
def sSign := sum1 fun xs _ H => some (iv (sgnL xs), H)
def sIsNormal := sum1 fun xs _ H => some (.bool (nrmB xs), H)
def sIsOne := sum1 fun xs _ H => some (.bool (decide (xs = [1])), H)
def sNormal := sum1 fun xs v H => whenB (all64 xs) (match nrmB xs with
  | true => some (v, H)
  | false => newL (digits (val xs)) H)
def negOk (xs : List Int) : Bool := xs.all fun x => decide (-9223372036854775808 < x) && decide (x <= 9223372036854775808)
theorem negOk_in {xs : List Int} (h : negOk xs = true) : ∀ x ∈ xs, In64 (0 - x) := fun x hx => by
  have := List.all_eq_true.1 h x hx
  simp only [Bool.and_eq_true, decide_eq_true_eq] at this
  exact ⟨by omega, by omega⟩
def sNegative := sum1 fun xs _ H => whenB (negOk xs) (newL (negL xs) H)
def sSize := sum1 fun xs v H => whenB (negOk xs) (match decide (sgnL xs < 0) with
  | true => newL (negL xs) H
  | false => some (v, H))
def sClone := sum1 fun xs v H => match v with
  | .nils => some (.nils, H)
  | _ => newL xs H
def sOf (us : List AV) (H : Heap) : Option (AV × Heap) :=
  match us with
  | [.int .i64 n] => whenB (decide (-9223372036854775808 <= n) && decide (n < 9223372036854775808) && roomB H) (newL (digits n) H)
  | _ => none
def sPlus (us : List AV) (H : Heap) : Option (AV × Heap) :=
  match us with
  | [x, .int .i64 f, y] => match getL H x, getL H y with
    | some xs, some ys => whenB (shortB xs && shortB ys && roomB H && allS xs && allS ys && decide (-100000000 <= f) && decide (f <= 100000000)) (newL (digits (val xs + f * val ys)) H)
    | _, _ => none
  | _ => none
def emptyB (xs : List Int) : Bool := match xs with | [] => true | _ => false
def sProduct (us : List AV) (H : Heap) : Option (AV × Heap) :=
  match us with
  | [x, y] => match getL H x, getL H y with
    | some xs, some ys => whenB (Nat.ble xs.length 511 && shortB ys && roomB H && allS xs && allS ys) (match emptyB xs || emptyB ys with
      | true => some (.nils, H)
      | false => newL (digits (val xs * val ys)) H)
    | _, _ => none
  | _ => none
def S0 : FuncId -> Option (List AV -> Heap -> Option (AV × Heap)) := fun _ => none
theorem old0 : Old S0 := ⟨rfl, rfl, rfl, rfl, rfl⟩
theorem room_lim {H : Heap} (h : H.n <= 274877906944) : H.n + 100 < lim := by unfold lim; omega
theorem sumOk {C : Ctx} {f : FuncId} {s : List AV -> Heap -> Option (AV × Heap)} (h : ∀ us H v H', s us H = some (v, H') -> Cl C f us H fun v1 H1 => Less H v H' v1 H1) : SumOk C f s := h
theorem ok_new {xs : List Int} {H H' : Heap} {v : AV} (h : newL xs H = some (v, H')) (hr : H.n <= 274877906944) {r : AV} {H1 : Heap} (hM : Mine H H.n r xs H1) : Less H v H' r H1 := by
  cases h
  exact less_fresh (by have := room_lim hr; omega) hM
theorem ok_sign : SumOk (ctx.plus S0) 125 sSign := sumOk fun us H v H' h => by
  obtain ⟨x, xs, rfl, h1, h2, h3, h4⟩ := sum1_some h
  cases h4
  exact (sign_run S0 rfl (by omega) h1).mono (by rintro r H1 ⟨rfl, rfl⟩; exact Less.refl _ _ _)
theorem ok_isNormal : SumOk (ctx.plus S0) 180 sIsNormal := sumOk fun us H v H' h => by
  obtain ⟨x, xs, rfl, h1, h2, h3, h4⟩ := sum1_some h
  cases h4
  exact (isNormal_run S0 rfl (by omega) h1).mono (by rintro r H1 ⟨rfl, rfl⟩; exact Less.refl _ _ _)
theorem ok_isOne : SumOk (ctx.plus S0) 179 sIsOne := sumOk fun us H v H' h => by
  obtain ⟨x, xs, rfl, h1, h2, h3, h4⟩ := sum1_some h
  cases h4
  exact (isOne_run S0 rfl h1).mono (by rintro r H1 ⟨rfl, rfl⟩; exact Less.refl _ _ _)
theorem ok_normal : SumOk (ctx.plus S0) 106 sNormal := sumOk fun us H v H' h => by
  obtain ⟨x, xs, rfl, h1, h2, h3, h4⟩ := sum1_some h
  obtain ⟨h5, h6⟩ := whenB_some h4
  have := room_lim h3
  refine (normal_run S0 old0 rfl rfl rfl (by omega) h1 h2 (all64_in h5)).mono ?_
  intro r H1 hM
  split at h6
  · rename_i hb
    rw [if_pos hb] at hM
    obtain ⟨rfl, rfl⟩ := hM
    cases h6
    exact Less.refl _ _ _
  · rename_i hb
    rw [if_neg (by rw [hb]; simp)] at hM
    exact ok_new h6 h3 hM
theorem ok_negative : SumOk (ctx.plus S0) 127 sNegative := sumOk fun us H v H' h => by
  obtain ⟨x, xs, rfl, h1, h2, h3, h4⟩ := sum1_some h
  obtain ⟨h5, h6⟩ := whenB_some h4
  have := room_lim h3
  exact (negative_run S0 rfl (by omega) h1 h2 (negOk_in h5)).mono fun r H1 hM => ok_new h6 h3 hM
theorem ok_size : SumOk (ctx.plus S0) 186 sSize := sumOk fun us H v H' h => by
  obtain ⟨x, xs, rfl, h1, h2, h3, h4⟩ := sum1_some h
  obtain ⟨h5, h6⟩ := whenB_some h4
  have := room_lim h3
  refine (size_run S0 rfl rfl rfl (by omega) h1 h2 (negOk_in h5)).mono ?_
  intro r H1 hM
  split at h6
  · rename_i hb
    rw [if_pos (of_decide_eq_true hb)] at hM
    exact ok_new h6 h3 hM
  · rename_i hb
    rw [if_neg (of_decide_eq_false hb)] at hM
    obtain ⟨rfl, rfl⟩ := hM
    cases h6
    exact Less.refl _ _ _
theorem ok_clone : SumOk (ctx.plus S0) 109 sClone := sumOk fun us H v H' h => by
  obtain ⟨x, xs, rfl, h1, h2, h3, h4⟩ := sum1_some h
  have := room_lim h3
  refine (clone_run S0 rfl (by omega) h1 h2).mono ?_
  rintro r H1 (⟨rfl, rfl, rfl⟩ | ⟨hx, hM, -⟩)
  · cases h4
    exact Less.refl _ _ _
  · split at h4
    · exact absurd rfl hx
    · exact ok_new h4 h3 hM
theorem ok_of : SumOk (ctx.plus S0) 26 sOf := sumOk fun us H v H' h => by
  unfold sOf at h
  split at h
  · obtain ⟨h1, h2⟩ := whenB_some h
    simp only [Bool.and_eq_true, decide_eq_true_eq] at h1
    have h3 := roomB_lt h1.2
    have := room_lim h3
    exact (of_run S0 old0 rfl (by omega) h1.1).mono fun r H1 hM => ok_new h2 h3 hM
  · cases h
theorem ok_plus : SumOk (ctx.plus S0) 114 sPlus := sumOk fun us H v H' h => by
  unfold sPlus at h
  split at h
  · split at h
    · rename_i xs ys hx hy
      obtain ⟨h1, h2⟩ := whenB_some h
      simp only [Bool.and_eq_true, decide_eq_true_eq] at h1
      obtain ⟨⟨⟨⟨⟨⟨a1, a2⟩, a3⟩, a4⟩, a5⟩, a6⟩, a7⟩ := h1
      have h3 := roomB_lt a3
      have := room_lim h3
      exact (plus_run S0 old0 rfl (by omega) (getL_sl hx) (getL_sl hy) (shortB_le a1) (shortB_le a2) (allS_sml a4) (allS_sml a5) ⟨a6, a7⟩).mono fun r H1 hM => ok_new h2 h3 hM
    · cases h
  · cases h
theorem emptyB_iff {xs : List Int} : emptyB xs = true ↔ xs = [] := by cases xs <;> simp [emptyB]
theorem ok_product : SumOk (ctx.plus S0) 116 sProduct := sumOk fun us H v H' h => by
  unfold sProduct at h
  split at h
  · split at h
    · rename_i xs ys hx hy
      obtain ⟨h1, h2⟩ := whenB_some h
      simp only [Bool.and_eq_true] at h1
      obtain ⟨⟨⟨⟨a1, a2⟩, a3⟩, a4⟩, a5⟩ := h1
      have h3 := roomB_lt a3
      have := room_lim h3
      refine (product_run S0 old0 rfl (by omega) (getL_sl hx) (getL_sl hy) (Nat.le_of_ble_eq_true a1) (shortB_le a2) (allS_sml a4) (allS_sml a5)).mono ?_
      intro r H1 hM
      split at h2
      · rename_i hb
        simp only [Bool.or_eq_true, emptyB_iff] at hb
        rw [if_pos hb] at hM
        obtain ⟨rfl, rfl⟩ := hM
        cases h2
        exact Less.refl _ _ _
      · rename_i hb
        rw [if_neg (by intro h0; simp only [Bool.or_eq_false_iff] at hb; rcases h0 with h0 | h0 <;> rw [h0] at hb <;> simp [emptyB] at hb)] at hM
        exact ok_new h2 h3 hM
    · cases h
  · cases h
def S1 : FuncId -> Option (List AV -> Heap -> Option (AV × Heap)) := fun f =>
  if f < 116 then
    (if f < 109 then (if f = 26 then some sOf else if f = 106 then some sNormal else none)
     else (if f = 109 then some sClone else if f = 114 then some sPlus else none))
  else
    (if f < 179 then (if f = 116 then some sProduct else if f = 125 then some sSign else if f = 127 then some sNegative else none)
     else (if f = 179 then some sIsOne else if f = 180 then some sIsNormal else if f = 186 then some sSize else none))
theorem case_if {α : Type} {p : Prop} [Decidable p] {a b : Option α} {s : α} {Q : Prop} (h : (if p then a else b) = some s) (h1 : p -> a = some s -> Q) (h2 : b = some s -> Q) : Q := by
  split at h
  · exact h1 ‹_› h
  · exact h2 h
theorem leaf_if {f g : FuncId} {s t : List AV -> Heap -> Option (AV × Heap)} {C : Ctx} (hok : SumOk C g t) : f = g -> some t = some s -> SumOk C f s := by
  rintro rfl h
  cases h
  exact hok
theorem ctx1_ok : Ctx.Ok Tryz.prog (ctx.plus S1) := by
  have h0 : Ctx.Ok Tryz.prog (ctx.plus S0) := ctx_ok
  refine Ctx.plus_ok (C := ctx.plus S0) h0 (T := S1) fun f s h => .inr ?_
  have hn : ∀ {Q : Prop}, (none : Option (List AV -> Heap -> Option (AV × Heap))) = some s -> Q := fun h => by cases h
  refine case_if h (fun _ h => case_if h (fun _ h => case_if h (leaf_if ok_of) fun h => case_if h (leaf_if ok_normal) hn) fun h => case_if h (leaf_if ok_clone) fun h => case_if h (leaf_if ok_plus) hn) fun h =>
    case_if h (fun _ h => case_if h (leaf_if ok_product) fun h => case_if h (leaf_if ok_sign) fun h => case_if h (leaf_if ok_negative) hn) fun h => case_if h (leaf_if ok_isOne) fun h => case_if h (leaf_if ok_isNormal) fun h => case_if h (leaf_if ok_size) hn
noncomputable def ctx1 : Ctx := ctx.plus S1
end Go.PI
