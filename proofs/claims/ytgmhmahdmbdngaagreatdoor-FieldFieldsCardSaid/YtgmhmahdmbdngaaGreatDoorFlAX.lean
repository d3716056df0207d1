/- Own work of the verifier: PvStur PvChk PvChk2 PvRat. -/
import Derived.Test.YtgmhmahdmbdngaaGreatDoorFlAW
set_option linter.all false
set_option linter.deprecated false
open Go.Proofs
namespace Go.PI
open IM
theorem fn203 : ctx.fn 203 = some c203 := by kernel_rfl
set_option maxRecDepth 10000
set_option maxHeartbeats 4000000
theorem pex46 (T : List PV) (h : T.length = 46) : T = [T.getD 0 undefP, T.getD 1 undefP, T.getD 2 undefP, T.getD 3 undefP, T.getD 4 undefP, T.getD 5 undefP, T.getD 6 undefP, T.getD 7 undefP, T.getD 8 undefP, T.getD 9 undefP, T.getD 10 undefP, T.getD 11 undefP, T.getD 12 undefP, T.getD 13 undefP, T.getD 14 undefP, T.getD 15 undefP, T.getD 16 undefP, T.getD 17 undefP, T.getD 18 undefP, T.getD 19 undefP, T.getD 20 undefP, T.getD 21 undefP, T.getD 22 undefP, T.getD 23 undefP, T.getD 24 undefP, T.getD 25 undefP, T.getD 26 undefP, T.getD 27 undefP, T.getD 28 undefP, T.getD 29 undefP, T.getD 30 undefP, T.getD 31 undefP, T.getD 32 undefP, T.getD 33 undefP, T.getD 34 undefP, T.getD 35 undefP, T.getD 36 undefP, T.getD 37 undefP, T.getD 38 undefP, T.getD 39 undefP, T.getD 40 undefP, T.getD 41 undefP, T.getD 42 undefP, T.getD 43 undefP, T.getD 44 undefP, T.getD 45 undefP] := by
 have := pexpand T
 rw [h] at this
 exact this
variable (S : FuncId -> Option (List AV -> Heap -> Option (AV × Heap)))
def negI (R : List Int) (i : Nat) : List Int := (R.take i).map (fun x => -x) ++ R.drop i
theorem negI_len (R : List Int) (i : Nat) : (negI R i).length = R.length := by simp [negI]; omega
theorem negI_get {R : List Int} {i : Nat} {x : Int} (h : R[i]? = some x) : (negI R i)[i]? = some x := by
 have hi := (List.getElem?_eq_some_iff.1 h).1
 unfold negI
 rw [List.getElem?_append_right (by simp; omega)]
 simp [Nat.min_eq_left (Nat.le_of_lt hi), h]
theorem negI_set {R : List Int} {i : Nat} {x : Int} (h : R[i]? = some x) : (negI R i).set i (-x) = negI R (i + 1) := by
 have hi := (List.getElem?_eq_some_iff.1 h).1
 unfold negI
 have h1 : ((R.take i).map fun x => -x).length = i := by simp; omega
 rw [List.set_append_right _ _ (by omega), h1, Nat.sub_self, drop_of_get h, take_snoc h]
 simp
theorem negI_zero (R : List Int) : negI R 0 = R := by simp [negI]
theorem negI_full (R : List Int) : negI R R.length = R.map fun x => -x := by simp [negI]
theorem spl_one {cs : List PV} {i : Nat} {y : PV} (h : i < cs.length) : pspl cs i [y] = cs.set i y := by
 unfold pspl
 rw [List.set_eq_take_append_cons_drop, if_pos h]
 simp
theorem mid_get {σ0 : List StB} {b b' b'' : StB} {j : Nat} {x : StB} (h : σ0[j]? = some x) : ((σ0 ++ [b]).set σ0.length b' ++ [b''])[j]? = some x := by
 have hj := (List.getElem?_eq_some_iff.1 h).1
 rw [List.getElem?_append_left (by simp; omega), List.getElem?_set_ne (by omega), List.getElem?_append_left hj]
 exact h
theorem mid_cont {σ0 : List StB} {b b' b'' : StB} {j : Nat} {x : TypeId × List PV} (h : contOf σ0 j = some x) : contOf ((σ0 ++ [b]).set σ0.length b' ++ [b'']) j = some x := by
 unfold contOf at h ⊢
 cases hj : σ0[j]? with
 | none => rw [hj] at h; cases h
 | some y =>
  rw [hj] at h
  rw [mid_get hj]
  exact h
theorem old_cont {σ0 : List StB} {b : StB} {j : Nat} {x : TypeId × List PV} (h : contOf σ0 j = some x) : contOf (σ0 ++ [b]) j = some x := by
 unfold contOf at h ⊢
 cases hj : σ0[j]? with
 | none => rw [hj] at h; cases h
 | some y =>
  rw [hj] at h
  rw [push_old hj]
  exact h
theorem load_own59 {S : FuncId -> Option (List AV -> Heap -> Option (AV × Heap))} {σ : List StB} {j o q : Nat} {t : TypeId} {cs : List PV} {v : PV} (hc : contOf σ j = some (t, cs)) (hv : cs[q]? = some v) (ho : o = q) : ploadE (ctx.plus S) σ 59 (.optr j o) = some v := by
 subst ho
 show (match contOf σ j with | some (_, cs) => partP t59 cs o | none => none) = some v
 rw [hc]
 exact hv
theorem spl_at {cs : List PV} {i o : Nat} {y : PV} (ho : o = i) (h : i < cs.length) : pspl cs o [y] = cs.set i y := by rw [ho]; exact spl_one h
theorem own_u {jr l l' : Nat} (h : l = l') : PV.ownu jr l 1 = .ownu jr l' 1 := by rw [h]
theorem push_at {σ0 : List StB} {b : StB} {n : Nat} (h : n = σ0.length) : (σ0 ++ [b])[n]? = some b := by subst h; simp
theorem pones_R : ∀ Ls : List (List Int), pones (Ls.map pR) = true
 | [] => rfl
 | l :: ls => by simp only [List.map_cons, pones, pones_R ls, Bool.and_true]; rfl
theorem remP_length_lt {p q : List Int} (hq : 1 <= q.length) : (remP p.length p q).length < q.length := remP_len hq _ (Nat.le_refl _)
theorem sturm_ct (hS : OldI S) (h203 : S 203 = none) (h240 : S 240 = none) (h241 : S 241 = none) {c0 : Int} {cs : List Int} (hc : Cf (c0 :: cs)) (hl : 2 <= cs.length /\ cs.length <= 4) :
  Ct (ctx.plus S) 203 [pR (c0 :: cs)] 60000 fun r => r = pC (chP cs.length (c0 :: cs) (derL 1 cs)) := by
 refine ct_of h203 fn203 ?_
 have hdl := derL_len cs 1
 have hB0 : B2s 12 (c0 :: cs) := fun x hx => by
  have := hc x hx
  unfold B2; omega
 have hB1 : B2s 12 (derL 1 cs) := fun x hx => by
  obtain ⟨i, hi⟩ := List.getElem?_of_mem hx
  have hil := (List.getElem?_eq_some_iff.1 hi).1
  obtain ⟨e, he⟩ : ∃ e, cs[i]? = some e := ⟨cs[i]'(by omega), List.getElem?_eq_getElem _⟩
  rw [derL_get cs 1 i e he] at hi
  have heB := hc e (by simp [List.mem_of_getElem? he])
  cases hi
  have := mul_bd (a := 1 + (i : Int)) (b := e) (m := 4) (n := 1000) (by omega) heB
  unfold B2; omega
 have hS0 : ∃ ep eq, Siz (cs.length + 1) cs.length ep eq /\ 12 <= ep /\ 12 <= eq := by
  have : cs.length = 4 ∨ cs.length = 3 ∨ cs.length = 2 := by omega
  rcases this with h | h | h <;> rw [h]
  ·exact ⟨12, 12, .inl ⟨rfl, rfl, rfl, rfl⟩, by omega, by omega⟩
  ·exact ⟨12, 62, .inr (.inl ⟨rfl, by omega, by omega, rfl, rfl⟩), by omega, by omega⟩
  ·exact ⟨62, 262, .inr (.inr (.inl ⟨rfl, by omega, by omega, rfl, rfl⟩)), by omega, by omega⟩
 refine callq rfl (derivative_ct S hS h240 hc (by omega)) (by omega) ?_
 rintro _ rfl
 refine ⟨by omega, [pR (c0 :: cs), pR (derL 1 cs)], rfl, ?_⟩
 obtain ⟨ep0, eq0, hz0, h12, h12'⟩ := hS0
 refine ⟨fun m s => ∃ (pre : List (List Int)) (p q : List Int) (n ep eq jj k : Nat) (v : PV) (σ0 : List StB) (T : List PV),
  s = ⟨T, σ0, k⟩ /\ T.length = 46 /\ T.getD 3 undefP = v /\ m = q.length /\ chP cs.length (c0 :: cs) (derL 1 cs) = pre ++ chP n p q /\ q.length <= n /\ Siz p.length q.length ep eq /\ B2s ep p /\ B2s eq q /\ q.length + pre.length <= 4 /\ k <= 301 + 7000 * pre.length ∧
   ((v = .own jj 0 (pre ++ [p, q]).length (pre ++ [p, q]).length 1 /\ contOf σ0 jj = some (59, (pre ++ [p, q]).map pR)) ∨ (v = .ownu jj (pre ++ [p, q]).length 1 /\ σ0[jj]? = some (.live 59 ((pre ++ [p, q]).map pR)))), ⟨cs.length, ?_⟩, ?_⟩
 ·exact ci ⟨[], c0 :: cs, derL 1 cs, cs.length, ep0, eq0, 0, _, _, _, _, rfl, rfl, rfl, hdl.symm, rfl, by omega, by rw [hdl]; exact hz0, hB0.mono h12, hB1.mono h12', by simp; omega, by simp, .inl ⟨rfl, rfl⟩⟩
 ·rintro m s ⟨pre, p, q, n, ep, eq, jj, k, v, σ0, T, rfl, hTl, h3t, hm, hch, hn, hz, hp, hq, hpre, hk, hv⟩
  obtain ⟨J, rfl⟩ : ∃ J : Nat -> PV, T = [J 0, J 1, J 2, v, J 4, J 5, J 6, J 7, J 8, J 9, J 10, J 11, J 12, J 13, J 14, J 15, J 16, J 17, J 18, J 19, J 20, J 21, J 22, J 23, J 24, J 25, J 26, J 27, J 28, J 29, J 30, J 31, J 32, J 33, J 34, J 35, J 36, J 37, J 38, J 39, J 40, J 41, J 42, J 43, J 44, J 45] := ⟨fun i => T.getD i undefP, (pex46 T hTl).trans (by rw [h3t])⟩
  clear hTl h3t
  obtain ⟨z1, z2, z3, z4, z5, z6⟩ := hz.le
  obtain ⟨Ls, hLs⟩ : ∃ Ls, pre ++ [p, q] = Ls := ⟨_, rfl⟩
  have hLl : Ls.length = pre.length + 2 := by rw [← hLs]; simp
  have hLp : (Ls.map pR)[Ls.length - 2]? = some (pR p) := by rw [← hLs]; simp
  have hLq : (Ls.map pR)[Ls.length - 1]? = some (pR q) := by rw [← hLs]; simp
  have hmn : (p.length + 1 - q.length) * (eq + 1) <= (p.length + 1 - q.length) * (2 * eq + 1) := Nat.mul_le_mul_left _ (by omega)
  have hR := rem_cf S hS h241 (p0 := p) (q := q) (a := ep) (b := eq) hp hq (by omega) (by omega) (by omega) (by omega) (by omega)
  have hRl := remP_length_lt (p := p) (q := q) (by omega)
  have hRB := remP_bd hq (by omega) p.length hp
  have hRe : remP p.length p q = [] -> chP cs.length (c0 :: cs) (derL 1 cs) = Ls := fun h => by
   rw [hch, ← hLs]
   cases n with
   | zero => rfl
   | succ n => simp only [chP, h]
  have hRn : remP p.length p q ≠ [] -> chP cs.length (c0 :: cs) (derL 1 cs) = (pre ++ [p]) ++ chP (n - 1) q ((remP p.length p q).map fun x => -x) := fun h => by
   rw [hch]
   cases n with
   | zero => omega
   | succ n =>
    simp only [chP]
    cases hx : remP p.length p q with
    | nil => exact absurd hx h
    | cons r rs => simp
  generalize remP p.length p q = R at hR hRl hRB hRe hRn
  rw [hLs] at hv
  rcases hv with ⟨rfl, hj⟩ | ⟨rfl, hj⟩
  ·refine ⟨by kernel_rfl, ?_⟩
   refine ⟨⟨by omega, by omega⟩, ?_⟩
   refine ⟨⟨by omega, by omega⟩, ?_⟩
   refine ⟨_, load_own59 (hj) hLp (by show 0 + _ * 1 = _; omega), rfl, ?_⟩
   refine ⟨⟨by omega, by omega⟩, ?_⟩
   refine ⟨⟨by omega, by omega⟩, ?_⟩
   refine ⟨_, load_own59 (hj) hLq (by show 0 + _ * 1 = _; omega), rfl, ?_⟩
   refine callqf rfl hR (by omega) ?_
   rintro _ _ cp _ cz ⟨rfl, rfl, rfl, hcz, hc1, hc2⟩
   refine ⟨fun h0 => ?_, fun h1 => ?_⟩
   ·have hR0 : R = [] := List.eq_nil_of_length_eq_zero (by omega)
    refine ⟨59, _, Ls.map pR, old_cont hj, ⟨by simp, by omega⟩, by rw [List.drop_zero, List.take_of_length_le (by simp)], ?_⟩
    show PV.lst _ _ = pC _
    rw [hRe hR0]
    rfl
   ·have hR1 : R ≠ [] := fun h => h1 (by rw [h]; rfl)
    have hRpos : 1 <= R.length := List.length_pos_iff.2 hR1
    refine ⟨fun m s => ∃ (i k' : Nat) (cw : List PV) (T : List PV), s = ⟨T, σ0 ++ [.live 22 cw], k'⟩ /\ cw.take R.length = (negI R i).map pI /\ cw.length = cz.length ∧
     T.length = 46 /\ T.getD 3 undefP = .own jj 0 Ls.length Ls.length 1 /\ T.getD 5 undefP = .own σ0.length 0 R.length cp 1 /\ T.getD 29 undefP = .own σ0.length 0 R.length cp 1 /\ T.getD 30 undefP = pn R.length /\ T.getD 31 undefP = pn (i : Int) /\ m = R.length - i /\ i <= R.length /\ k' <= k + 6000 + 8 * i, ⟨R.length, ?_⟩, ?_⟩
    ·exact ci ⟨0, _, cz, _, rfl, by rw [negI_zero]; exact hcz, rfl, rfl, rfl, rfl, rfl, rfl, rfl, by omega, by omega, by omega⟩
    ·rintro m2 s ⟨i, k', cw, T, rfl, hcw, hcl, hTl, h3t, h5t, h29t, h30t, h31t, hm2, hi, hk'⟩
     obtain ⟨J2, rfl⟩ : ∃ J : Nat -> PV, T = [J 0, J 1, J 2, .own jj 0 Ls.length Ls.length 1, J 4, .own σ0.length 0 R.length cp 1, J 6, J 7, J 8, J 9, J 10, J 11, J 12, J 13, J 14, J 15, J 16, J 17, J 18, J 19, J 20, J 21, J 22, J 23, J 24, J 25, J 26, J 27, J 28, .own σ0.length 0 R.length cp 1, pn R.length, pn (i : Int), J 32, J 33, J 34, J 35, J 36, J 37, J 38, J 39, J 40, J 41, J 42, J 43, J 44, J 45] := ⟨fun i => T.getD i undefP, (pex46 T hTl).trans (by rw [h3t, h5t, h29t, h30t, h31t])⟩
     clear hTl h3t h5t h29t h30t h31t
     refine ⟨fun hlt => ?_, fun hge => ?_⟩
     ·obtain ⟨x, hx⟩ : ∃ x, R[i]? = some x := ⟨R[i]'(by omega), List.getElem?_eq_getElem _⟩
      have hxB := hRB x (List.mem_of_getElem? hx)
      have hxd : (digits x).length <= 186 := (B2.mono (b := 4800) hxB (by omega)).dig (k := 185) (by omega)
      refine ⟨⟨by omega, by omega⟩, ?_⟩
      refine ⟨_, load_own push_cont (own_get (p := negI R i) (by rw [negI_len]; exact hcw) (negI_get hx)) (by show 0 + _ * 1 = i; omega), ?_⟩
      refine callq rfl (neg_ct S hS.h127 (X := x) (by omega)) (by omega) ?_
      rintro _ rfl
      refine ⟨⟨by omega, by omega⟩, ?_⟩
      refine ⟨_, _, push_get, ⟨rfl, by show 0 + _ * 1 + 1 <= _; omega, rfl⟩, cw.set i (pI (-x)), spl_at (by show 0 + _ * 1 = i; omega) (by omega), _, push_set, ?_⟩
      refine ⟨⟨by omega, by omega⟩, ?_⟩
      exact ⟨R.length - (i + 1), by omega, ci ⟨i + 1, _, _, _, rfl, by rw [List.take_set, hcw, ← List.map_set, negI_set hx], by rw [List.length_set, hcl], rfl, rfl, rfl, rfl, rfl, rfl, rfl, by omega, by omega⟩⟩
     ·have hin : i = R.length := by omega
      subst hin
      rw [negI_full] at hcw
      have hpr : PV.lst R.length ((R.map fun x => -x).map pI) = pR (R.map fun x => -x) := by rw [pR, List.length_map]
      have hLs2 : pre ++ [p] ++ [q, R.map fun x => -x] = Ls ++ [R.map fun x => -x] := by rw [← hLs]; simp
      obtain ⟨ep', eq', z7, z8, z9⟩ := hz.next hRpos hRl
      refine ⟨by omega, 22, cw, (R.map fun x => -x).map pI, push_cont, ⟨by omega, by omega⟩, by rw [List.drop_zero, Nat.mul_one]; exact hcw, [pR (R.map fun x => -x)], congrArg (fun z => some [z]) hpr, ?_⟩
      refine ⟨59, _, _, push_cont, by show 0 + 1 * 1 <= 1; omega, rfl, ⟨by decide, rfl⟩, ?_⟩
      refine ⟨by omega, fun h => absurd h (by omega), fun _ => ⟨by omega, 59, Ls.map pR, (Ls ++ [R.map fun x => -x]).map pR, mid_cont hj, by show 0 + _ * 1 <= _; simp, by rw [List.drop_zero, List.take_of_length_le (by show _ <= _ * 1; simp), List.map_append]; rfl, ?_⟩⟩
      refine ⟨R.length, by omega, ci ⟨pre ++ [p], q, R.map fun x => -x, n - 1, ep', eq', _, _, .ownu _ (pre ++ [p] ++ [q, R.map fun x => -x]).length 1, _, _, rfl, rfl, own_u (by rw [hLs2]; simp), by simp, hRn hR1, by simp; omega, by rw [List.length_map]; exact z7, hq.mono z8, (hRB.mono (by omega)).map_neg, by simp; omega, by simp; omega, .inr ⟨rfl, by rw [hLs2]; exact push_at (by simp)⟩⟩⟩
  ·refine ⟨by kernel_rfl, ?_⟩
   refine ⟨⟨by omega, by omega⟩, ?_⟩
   refine ⟨⟨by omega, by omega⟩, ?_⟩
   refine ⟨_, load_own59 (cont_live hj) hLp (by show 0 + _ * 1 = _; omega), rfl, ?_⟩
   refine ⟨⟨by omega, by omega⟩, ?_⟩
   refine ⟨⟨by omega, by omega⟩, ?_⟩
   refine ⟨_, load_own59 (cont_live hj) hLq (by show 0 + _ * 1 = _; omega), rfl, ?_⟩
   refine callqf rfl hR (by omega) ?_
   rintro _ _ cp _ cz ⟨rfl, rfl, rfl, hcz, hc1, hc2⟩
   refine ⟨fun h0 => ?_, fun h1 => ?_⟩
   ·have hR0 : R = [] := List.eq_nil_of_length_eq_zero (by omega)
    refine ⟨59, _, Ls.map pR, old_cont (cont_live hj), ⟨by simp, fun _ => rfl⟩, by rw [List.take_of_length_le (by simp)], ?_⟩
    show PV.lst _ _ = pC _
    rw [hRe hR0]
    rfl
   ·have hR1 : R ≠ [] := fun h => h1 (by rw [h]; rfl)
    have hRpos : 1 <= R.length := List.length_pos_iff.2 hR1
    refine ⟨fun m s => ∃ (i k' : Nat) (cw : List PV) (T : List PV), s = ⟨T, σ0 ++ [.live 22 cw], k'⟩ /\ cw.take R.length = (negI R i).map pI /\ cw.length = cz.length ∧
     T.length = 46 /\ T.getD 3 undefP = .ownu jj Ls.length 1 /\ T.getD 5 undefP = .own σ0.length 0 R.length cp 1 /\ T.getD 29 undefP = .own σ0.length 0 R.length cp 1 /\ T.getD 30 undefP = pn R.length /\ T.getD 31 undefP = pn (i : Int) /\ m = R.length - i /\ i <= R.length /\ k' <= k + 6000 + 8 * i, ⟨R.length, ?_⟩, ?_⟩
    ·exact ci ⟨0, _, cz, _, rfl, by rw [negI_zero]; exact hcz, rfl, rfl, rfl, rfl, rfl, rfl, rfl, by omega, by omega, by omega⟩
    ·rintro m2 s ⟨i, k', cw, T, rfl, hcw, hcl, hTl, h3t, h5t, h29t, h30t, h31t, hm2, hi, hk'⟩
     obtain ⟨J2, rfl⟩ : ∃ J : Nat -> PV, T = [J 0, J 1, J 2, .ownu jj Ls.length 1, J 4, .own σ0.length 0 R.length cp 1, J 6, J 7, J 8, J 9, J 10, J 11, J 12, J 13, J 14, J 15, J 16, J 17, J 18, J 19, J 20, J 21, J 22, J 23, J 24, J 25, J 26, J 27, J 28, .own σ0.length 0 R.length cp 1, pn R.length, pn (i : Int), J 32, J 33, J 34, J 35, J 36, J 37, J 38, J 39, J 40, J 41, J 42, J 43, J 44, J 45] := ⟨fun i => T.getD i undefP, (pex46 T hTl).trans (by rw [h3t, h5t, h29t, h30t, h31t])⟩
     clear hTl h3t h5t h29t h30t h31t
     refine ⟨fun hlt => ?_, fun hge => ?_⟩
     ·obtain ⟨x, hx⟩ : ∃ x, R[i]? = some x := ⟨R[i]'(by omega), List.getElem?_eq_getElem _⟩
      have hxB := hRB x (List.mem_of_getElem? hx)
      have hxd : (digits x).length <= 186 := (B2.mono (b := 4800) hxB (by omega)).dig (k := 185) (by omega)
      refine ⟨⟨by omega, by omega⟩, ?_⟩
      refine ⟨_, load_own push_cont (own_get (p := negI R i) (by rw [negI_len]; exact hcw) (negI_get hx)) (by show 0 + _ * 1 = i; omega), ?_⟩
      refine callq rfl (neg_ct S hS.h127 (X := x) (by omega)) (by omega) ?_
      rintro _ rfl
      refine ⟨⟨by omega, by omega⟩, ?_⟩
      refine ⟨_, _, push_get, ⟨rfl, by show 0 + _ * 1 + 1 <= _; omega, rfl⟩, cw.set i (pI (-x)), spl_at (by show 0 + _ * 1 = i; omega) (by omega), _, push_set, ?_⟩
      refine ⟨⟨by omega, by omega⟩, ?_⟩
      exact ⟨R.length - (i + 1), by omega, ci ⟨i + 1, _, _, _, rfl, by rw [List.take_set, hcw, ← List.map_set, negI_set hx], by rw [List.length_set, hcl], rfl, rfl, rfl, rfl, rfl, rfl, rfl, by omega, by omega⟩⟩
     ·have hin : i = R.length := by omega
      subst hin
      rw [negI_full] at hcw
      have hpr : PV.lst R.length ((R.map fun x => -x).map pI) = pR (R.map fun x => -x) := by rw [pR, List.length_map]
      have hLs2 : pre ++ [p] ++ [q, R.map fun x => -x] = Ls ++ [R.map fun x => -x] := by rw [← hLs]; simp
      obtain ⟨ep', eq', z7, z8, z9⟩ := hz.next hRpos hRl
      refine ⟨by omega, 22, cw, (R.map fun x => -x).map pI, push_cont, ⟨by omega, by omega⟩, by rw [List.drop_zero, Nat.mul_one]; exact hcw, [pR (R.map fun x => -x)], congrArg (fun z => some [z]) hpr, ?_⟩
      refine ⟨59, _, _, push_cont, by show 0 + 1 * 1 <= 1; omega, rfl, ⟨by decide, rfl⟩, ?_⟩
      refine ⟨⟨by omega, rfl, by omega⟩, Ls.map pR, (Ls ++ [R.map fun x => -x]).map pR, mid_get hj, by show _ * 1 <= _; simp, by rw [List.take_of_length_le (by show _ <= _ * 1; simp), List.map_append]; rfl, ?_⟩
      refine ⟨R.length, by omega, ci ⟨pre ++ [p], q, R.map fun x => -x, n - 1, ep', eq', _, _, .ownu _ (pre ++ [p] ++ [q, R.map fun x => -x]).length 1, _, _, rfl, rfl, own_u (by rw [hLs2]; simp), by simp, hRn hR1, by simp; omega, by rw [List.length_map]; exact z7, hq.mono z8, (hRB.mono (by omega)).map_neg, by simp; omega, by simp; omega, .inr ⟨rfl, by rw [hLs2]; exact push_at (by simp)⟩⟩⟩
end Go.PI
open Go.Proofs
namespace Go.PI
open IM
theorem fn204 : ctx.fn 204 = some c204 := by kernel_rfl
theorem fn139 : ctx.fn 139 = some c139 := by kernel_rfl
theorem fn137 : ctx.fn 137 = some c137 := by kernel_rfl
theorem fn45 : ctx.fn 45 = some c45 := by kernel_rfl
set_option maxRecDepth 10000
set_option maxHeartbeats 4000000
variable (S : FuncId -> Option (List AV -> Heap -> Option (AV × Heap)))
def pF (P : List Int) (lo hi den : Int) : PV := .agg [pIs P, pn lo, pn hi, pn den]
theorem chP_mem : ∀ (n : Nat) {p q : List Int} {ep eq : Nat}, Siz p.length q.length ep eq -> B2s ep p -> B2s eq q -> ∀ L ∈ chP n p q, B2s 4800 L /\ L.length <= 5
 | 0, p, q, ep, eq, hz, hp, hq, L, hL => by
  obtain ⟨z1, z2, z3, z4, z5, z6⟩ := hz.le
  simp only [chP, List.mem_cons, List.not_mem_nil, or_false] at hL
  rcases hL with rfl | rfl
  ·exact ⟨hp.mono (by omega), by omega⟩
  ·exact ⟨hq.mono (by omega), by omega⟩
 | n + 1, p, q, ep, eq, hz, hp, hq, L, hL => by
  obtain ⟨z1, z2, z3, z4, z5, z6⟩ := hz.le
  simp only [chP] at hL
  have hRl := remP_length_lt (p := p) (q := q) (by omega)
  have hRB := remP_bd hq (by omega) p.length hp
  have hmn : (p.length + 1 - q.length) * (eq + 1) <= (p.length + 1 - q.length) * (2 * eq + 1) := Nat.mul_le_mul_left _ (by omega)
  cases hR : remP p.length p q with
  | nil =>
   rw [hR] at hL
   simp only [List.mem_cons, List.not_mem_nil, or_false] at hL
   rcases hL with rfl | rfl
   ·exact ⟨hp.mono (by omega), by omega⟩
   ·exact ⟨hq.mono (by omega), by omega⟩
  | cons r rs =>
   rw [hR] at hL hRl hRB
   simp only [List.mem_cons] at hL
   rcases hL with rfl | hL
   ·exact ⟨hp.mono (by omega), by omega⟩
   ·obtain ⟨ep', eq', z7, z8, z9⟩ := hz.next (l := (r :: rs).length) (by simp) hRl
    exact chP_mem n (by rw [List.length_map]; exact z7) (hq.mono z8) (hRB.mono (by omega)).map_neg L hL
theorem chP_length : ∀ (n : Nat) (p q : List Int), (chP n p q).length <= n + 2
 | 0, p, q => by simp [chP]
 | n + 1, p, q => by
  simp only [chP]
  split
  ·simp
  ·rename_i r rs _
   have := chP_length n q ((r :: rs).map fun x => -x)
   simp only [List.length_cons]
   omega
theorem varP_bd : ∀ (ss : List Int) (b : Int), 0 <= varP ss b /\ varP ss b <= ss.length
 | [], _ => by simp [varP]
 | s :: ss, b => by
  have := varP_bd ss (if s = 0 then b else s)
  simp only [varP, List.length_cons]
  split <;> omega
theorem variations_ct (hS : OldI S) (h204 : S 204 = none) (h242 : S 242 = none) {Ls : List (List Int)} {a b : Int} (ha : -1000000 <= a /\ a <= 1000000) (hb : -1000000 <= b /\ b <= 1000000) (hL : ∀ L ∈ Ls, B2s 4800 L /\ L.length <= 5) (hl : Ls.length <= 6) :
  Ct (ctx.plus S) 204 [pC Ls, pI a, pI b] 10000 fun r => r = pn (varP (sgs a b Ls) 0) := by
 refine ct_of h204 fn204 ?_
 have hsl : (sgs a b Ls).length = Ls.length := by simp [sgs]
 refine ⟨fun m s => ∃ (i k : Nat) (n bf : Int) (j3 j4 j5 j6 j9 ja jb jf jg jh ji jj jk jl jm jn jo jp jq jr js jt ju jv jw jx : PV),
  s = ⟨[pC Ls, pI a, pI b, j3, j4, j5, j6, pn n, pn bf, j9, ja, jb, pC Ls, pn Ls.length, pn (i : Int), jf, jg, jh, ji, jj, jk, jl, jm, jn, jo, jp, jq, jr, js, jt, ju, jv, jw, jx], [], k⟩ /\ m = Ls.length - i /\ i <= Ls.length /\ n + varP ((sgs a b Ls).drop i) bf = varP (sgs a b Ls) 0 /\ (bf = -1 ∨ bf = 0 ∨ bf = 1) /\ (0 <= n /\ n <= i) /\ k <= 1000 * i, ⟨Ls.length, ?_⟩, ?_⟩
 ·exact ci ⟨0, _, 0, 0, _, _, _, _, _, _, _, _, _, _, _, _, _, _, _, _, _, _, _, _, _, _, _, _, _, _, rfl, rfl, by omega, by simp, .inr (.inl rfl), by omega, by omega⟩
 ·rintro m s ⟨i, k, n, bf, j3, j4, j5, j6, j9, ja, jb, jf, jg, jh, ji, jj, jk, jl, jm, jn, jo, jp, jq, jr, js, jt, ju, jv, jw, jx, rfl, hm, hi, hv, hbf, hn, hk⟩
  refine ⟨fun hlt => ?_, fun hge => ?_⟩
  ·obtain ⟨L, hLi⟩ : ∃ L, Ls[i]? = some L := ⟨Ls[i]'(by omega), List.getElem?_eq_getElem _⟩
   obtain ⟨hLB, hLl⟩ := hL L (List.mem_of_getElem? hLi)
   have hp := pw_two26 185
   have hp1 : pw 186 = 100000000 * pw 185 := rfl
   have hp2 := pw_pos 185
   have hp3 := two_mono (show 4800 <= 26 * 185 by omega)
   have hLw : ∀ c ∈ L, -pw 186 < c /\ c < pw 186 := fun c hc => by
    have := hLB c hc
    unfold B2 at this
    omega
   obtain ⟨X, hX⟩ : ∃ X, (vS L a b).1 = X := ⟨_, rfl⟩
   have hXd : (digits X).length <= 200 := by
    have h1 := (vS_bound (k := 186) ha hb L hLw).1
    have h2 := pw_mono (show 186 + L.length <= 200 by omega)
    rw [hX] at h1
    exact len_of (by omega)
   obtain ⟨s, hs⟩ : ∃ s, Int.sign X = s := ⟨_, rfl⟩
   have hsd : (sgs a b Ls)[i]? = some s := by simp [sgs, hLi, hX, hs]
   have hsg : s = -1 ∨ s = 0 ∨ s = 1 := sgs_small s (List.mem_of_getElem? hsd)
   rw [drop_of_get hsd] at hv
   simp only [varP] at hv
   have step : ∀ (n' k' : Nat) (bf' : Int), bf' = (if s = 0 then bf else s) -> bf' = -1 ∨ bf' = 0 ∨ bf' = 1 := fun n' k' bf' h => by
    rw [h]; split <;> assumption
   refine ⟨⟨⟨by omega, by omega⟩, len_map_le (by omega)⟩, ?_⟩
   refine ⟨_, ld (at_map hLi) (by show _ * 1 = i; omega), ?_⟩
   refine callq rfl ((valueAt_ct S hS h242 (L := L) ha hb hLw (by omega) (by omega)).post fun r h => h.trans (congrArg pI hX)) (by omega) ?_
   rintro _ rfl
   refine callq rfl ((sign_ct S hS.o.h125 (X := X) (by omega)).post fun r h => h.trans (congrArg pn hs)) (by omega) ?_
   rintro _ rfl
   have hsb : -1 <= s * bf /\ s * bf <= 1 := by
    rcases hsg with rfl | rfl | rfl <;> rcases hbf with rfl | rfl | rfl <;> decide
   refine ⟨⟨by omega, by omega⟩, ?_⟩
   refine ⟨fun hneg => ?_, fun hpos => ?_⟩
   ·rw [if_pos hneg] at hv
    refine ⟨⟨by omega, by omega⟩, ?_⟩
    refine ⟨fun h0 => ?_, fun h0 => ?_⟩
    ·rw [if_neg h0] at hv
     refine ⟨⟨by omega, by omega⟩, ?_⟩
     exact ⟨Ls.length - (i + 1), by omega, ci ⟨i + 1, _, _, s, _, _, _, _, _, _, _, _, _, _, _, _, _, _, _, _, _, _, _, _, _, _, _, _, _, _, rfl, rfl, by omega, by omega, hsg, by omega, by omega⟩⟩
    ·rw [if_pos h0] at hv
     refine ⟨⟨by omega, by omega⟩, ?_⟩
     exact ⟨Ls.length - (i + 1), by omega, ci ⟨i + 1, _, _, bf, _, _, _, _, _, _, _, _, _, _, _, _, _, _, _, _, _, _, _, _, _, _, _, _, _, _, rfl, rfl, by omega, by omega, hbf, by omega, by omega⟩⟩
   ·rw [if_neg (by omega)] at hv
    refine ⟨fun h0 => ?_, fun h0 => ?_⟩
    ·rw [if_neg h0] at hv
     refine ⟨⟨by omega, by omega⟩, ?_⟩
     exact ⟨Ls.length - (i + 1), by omega, ci ⟨i + 1, _, _, s, _, _, _, _, _, _, _, _, _, _, _, _, _, _, _, _, _, _, _, _, _, _, _, _, _, _, rfl, rfl, by omega, by omega, hsg, by omega, by omega⟩⟩
    ·rw [if_pos h0] at hv
     refine ⟨⟨by omega, by omega⟩, ?_⟩
     exact ⟨Ls.length - (i + 1), by omega, ci ⟨i + 1, _, _, bf, _, _, _, _, _, _, _, _, _, _, _, _, _, _, _, _, _, _, _, _, _, _, _, _, _, _, rfl, rfl, by omega, by omega, hbf, by omega, by omega⟩⟩
  ·have e : i = Ls.length := by omega
   subst e
   rw [List.drop_eq_nil_of_le (by omega)] at hv
   simp only [varP, Int.add_zero] at hv
   subst hv
   exact endq rfl rfl
theorem within_ct (h : S 140 = none) {n a b : Int} : Ct (ctx.plus S) 140 [pn n, pn a, pn b] 0 fun r => ((a <= n /\ n <= b) /\ r = .bool true) ∨ (¬ (a <= n /\ n <= b) /\ r = .bool false) := by
 intro H W avs hw hr hl
 cases hr with
 | cons h1 hr => cases hr with
  | cons h2 hr => cases hr with
   | cons h3 hr =>
    cases hr
    cases h1
    cases h2
    cases h3
    refine (within_run S h).mono ?_
    rintro _ _ ⟨rfl, rfl⟩
    by_cases hc : a <= n /\ n <= b
    ·rw [decide_eq_true hc]; exact ⟨_, .inl ⟨hc, rfl⟩, .bool _, KpH.refl _ _⟩
    ·rw [decide_eq_false hc]; exact ⟨_, .inr ⟨hc, rfl⟩, .bool _, KpH.refl _ _⟩
def OneP (P : List Int) (lo hi den : Int) : Prop :=
 (P.length = 2 /\ lo <= (0 - P.getD 0 0) * den /\ (0 - P.getD 0 0) * den <= hi) ∨
 (P.length ≠ 2 /\ ∃ c0 cs, P = c0 :: cs /\ varP (sgs lo den (chP cs.length (c0 :: cs) (derL 1 cs))) 0 - varP (sgs hi den (chP cs.length (c0 :: cs) (derL 1 cs))) 0 = 1)
structure OldC (S : FuncId -> Option (List AV -> Heap -> Option (AV × Heap))) : Prop where
 i : OldI S
 h134 : S 134 = none
 h137 : S 137 = none
 h139 : S 139 = none
 h140 : S 140 = none
 h203 : S 203 = none
 h204 : S 204 = none
 h240 : S 240 = none
 h241 : S 241 = none
 h242 : S 242 = none
theorem chP_siz {c0 : Int} {cs : List Int} (hc : Cf (c0 :: cs)) (hl : 2 <= cs.length /\ cs.length <= 4) : ∃ ep eq, Siz (c0 :: cs).length (derL 1 cs).length ep eq /\ B2s ep (c0 :: cs) /\ B2s eq (derL 1 cs) := by
 have hdl := derL_len cs 1
 have hB0 : B2s 12 (c0 :: cs) := fun x hx => by
  have := hc x hx
  unfold B2; omega
 have hB1 : B2s 12 (derL 1 cs) := fun x hx => by
  obtain ⟨i, hi⟩ := List.getElem?_of_mem hx
  have hil := (List.getElem?_eq_some_iff.1 hi).1
  obtain ⟨e, he⟩ : ∃ e, cs[i]? = some e := ⟨cs[i]'(by omega), List.getElem?_eq_getElem _⟩
  rw [derL_get cs 1 i e he] at hi
  have heB := hc e (by simp [List.mem_of_getElem? he])
  cases hi
  have := mul_bd (a := 1 + (i : Int)) (b := e) (m := 4) (n := 1000) (by omega) heB
  unfold B2; omega
 have : cs.length = 4 ∨ cs.length = 3 ∨ cs.length = 2 := by omega
 rw [hdl, List.length_cons]
 rcases this with h | h | h <;> rw [h]
 ·exact ⟨12, 12, .inl ⟨rfl, rfl, rfl, rfl⟩, hB0, hB1⟩
 ·exact ⟨12, 62, .inr (.inl ⟨rfl, by omega, by omega, rfl, rfl⟩), hB0, hB1.mono (by omega)⟩
 ·exact ⟨62, 262, .inr (.inr (.inl ⟨rfl, by omega, by omega, rfl, rfl⟩)), hB0.mono (by omega), hB1.mono (by omega)⟩
theorem oneRoot_ct (hS : OldC S) {P : List Int} {lo hi den : Int} (hc : Cf P) (hl : 2 <= P.length /\ P.length <= 5) (hlo : -1000000 <= lo /\ lo <= 1000000) (hhi : -1000000 <= hi /\ hi <= 1000000) (hden : 1 <= den /\ den <= 1000000) :
  Ct (ctx.plus S) 139 [pF P lo hi den] 100000 fun r => (OneP P lo hi den /\ r = .bool true) ∨ (¬ OneP P lo hi den /\ r = .bool false) := by
 refine ct_of hS.h139 fn139 ?_
 refine ⟨by omega, ?_⟩
 refine ⟨_, rfl, ?_⟩
 refine ⟨fun h2 => ?_, fun h2 => ?_⟩
 ·have hP := get_at (p := P) (i := 0) (by omega)
  have hB := hc _ (List.mem_of_getElem? hP)
  have hm := mul_bd (a := 0 - P.getD 0 0) (b := den) (m := 1000) (n := 1000000) (by omega) (by omega)
  refine ⟨by kernel_rfl, ?_⟩
  refine ⟨_, rfl, rfl, ?_⟩
  refine ⟨⟨⟨by omega, by omega⟩, len_map_le (by omega)⟩, ?_⟩
  refine ⟨_, ld (at_map hP) rfl, rfl, ?_⟩
  refine ⟨⟨by omega, by omega⟩, ?_⟩
  refine ⟨_, rfl, rfl, ?_⟩
  refine ⟨⟨by omega, by omega⟩, ?_⟩
  refine ⟨_, rfl, rfl, ?_⟩
  refine ⟨_, rfl, rfl, ?_⟩
  refine callq rfl (within_ct S hS.h140) (by omega) ?_
  rintro _ (⟨h, rfl⟩ | ⟨h, rfl⟩)
  ·exact endq rfl (.inl ⟨.inl ⟨by omega, h⟩, rfl⟩)
  ·refine endq rfl (.inr ⟨fun hh => ?_, rfl⟩)
   rcases hh with ⟨-, hh⟩ | ⟨hh, -⟩
   ·exact h hh
   ·omega
 ·obtain ⟨c0, cs, rfl⟩ : ∃ c0 cs, P = c0 :: cs := by
   cases P with
   | nil => simp at hl
   | cons c0 cs => exact ⟨c0, cs, rfl⟩
  have hl2 : 2 <= cs.length /\ cs.length <= 4 := by simp at hl h2; omega
  obtain ⟨ep, eq, hz, hB0, hB1⟩ := chP_siz hc hl2
  have hmem := chP_mem cs.length hz hB0 hB1
  have hcl := chP_length cs.length (c0 :: cs) (derL 1 cs)
  have hv1 := varP_bd (sgs lo den (chP cs.length (c0 :: cs) (derL 1 cs))) 0
  have hv2 := varP_bd (sgs hi den (chP cs.length (c0 :: cs) (derL 1 cs))) 0
  have hs1 : (sgs lo den (chP cs.length (c0 :: cs) (derL 1 cs))).length <= 6 := by simp [sgs]; omega
  have hs2 : (sgs hi den (chP cs.length (c0 :: cs) (derL 1 cs))).length <= 6 := by simp [sgs]; omega
  refine ⟨_, rfl, ?_⟩
  refine callq rfl (lists_ct S hS.i hS.h134 hc (by omega)) (by omega) ?_
  rintro _ rfl
  refine callq rfl (sturm_ct S hS.i hS.h203 hS.h240 hS.h241 hc hl2) (by omega) ?_
  rintro _ rfl
  refine ⟨by kernel_rfl, ?_⟩
  refine ⟨_, rfl, rfl, ?_⟩
  refine callq rfl (of_ct S hS.i.o hS.i.h26 (n := lo) (by unfold In64; omega)) (by omega) ?_
  rintro _ rfl
  refine ⟨_, rfl, rfl, ?_⟩
  refine callq rfl (of_ct S hS.i.o hS.i.h26 (n := den) (by unfold In64; omega)) (by omega) ?_
  rintro _ rfl
  refine callq rfl (variations_ct S hS.i hS.h204 hS.h242 (a := lo) (b := den) hlo (by omega) hmem (by omega)) (by omega) ?_
  rintro _ rfl
  refine ⟨_, rfl, rfl, ?_⟩
  refine callq rfl (of_ct S hS.i.o hS.i.h26 (n := hi) (by unfold In64; omega)) (by omega) ?_
  rintro _ rfl
  refine ⟨_, rfl, rfl, ?_⟩
  refine callq rfl (of_ct S hS.i.o hS.i.h26 (n := den) (by unfold In64; omega)) (by omega) ?_
  rintro _ rfl
  refine callq rfl (variations_ct S hS.i hS.h204 hS.h242 (a := hi) (b := den) hhi (by omega) hmem (by omega)) (by omega) ?_
  rintro _ rfl
  refine ⟨⟨by omega, by omega⟩, ?_⟩
  refine ⟨fun h1 => ?_, fun h1 => ?_⟩
  ·exact endq rfl (.inl ⟨.inr ⟨by omega, c0, cs, rfl, h1⟩, rfl⟩)
  ·refine endq rfl (.inr ⟨fun hh => ?_, rfl⟩)
   rcases hh with ⟨hh, -⟩ | ⟨-, d0, ds, e, hh⟩
   ·omega
   ·cases e
    exact h1 hh
def InR (P : List Int) (lo hi den : Int) : Prop := Cf P /\ (1 <= den /\ den <= 1000000) /\ (-1000000 <= lo /\ lo <= 1000000) /\ (-1000000 <= hi /\ hi <= 1000000)
theorem inRange_ct (hS : OldC S) {P : List Int} {lo hi den : Int} (hl : P.length <= 8) : Ct (ctx.plus S) 137 [pF P lo hi den] 100 fun r => (InR P lo hi den /\ r = .bool true) ∨ (¬ InR P lo hi den /\ r = .bool false) := by
 refine ct_of hS.h137 fn137 ?_
 refine ⟨by omega, ?_⟩
 refine ⟨_, rfl, ?_⟩
 refine ⟨fun m s => ∃ (i : Nat) (j2 j3 j4 j5 j9 ja jb jc jd je jf jg jh ji jj jk jl jm jn jo jp jq jr js : PV),
  s = ⟨[pF P lo hi den, .optr 0 0, j2, j3, j4, j5, pIs P, pn P.length, pn (i : Int), j9, ja, jb, jc, jd, je, jf, jg, jh, ji, jj, jk, jl, jm, jn, jo, jp, jq, jr, js], [.live 46 [pIs P, pn lo, pn hi, pn den]], 1⟩ /\ m = P.length - i /\ i <= P.length /\ (∀ j x, j < i -> P[j]? = some x -> -1000 <= x /\ x <= 1000), ⟨P.length, ?_⟩, ?_⟩
 ·exact ci ⟨0, _, _, _, _, _, _, _, _, _, _, _, _, _, _, _, _, _, _, _, _, _, _, _, _, rfl, rfl, by omega, fun j x h => by omega⟩
 ·rintro m s ⟨i, j2, j3, j4, j5, j9, ja, jb, jc, jd, je, jf, jg, jh, ji, jj, jk, jl, jm, jn, jo, jp, jq, jr, js, rfl, hm, hi, hok⟩
  refine ⟨fun hlt => ?_, fun hge => ?_⟩
  ·obtain ⟨x, hx⟩ : ∃ x, P[i]? = some x := ⟨P[i]'(by omega), List.getElem?_eq_getElem _⟩
   refine ⟨⟨⟨by omega, by omega⟩, len_map_le (by omega)⟩, ?_⟩
   refine ⟨_, ld (at_map hx) (by show _ * 1 = i; omega), ?_⟩
   refine callq rfl (within_ct S hS.h140) (by omega) ?_
   rintro _ (⟨h, rfl⟩ | ⟨h, rfl⟩)
   ·refine ⟨⟨by omega, by omega⟩, ?_⟩
    refine ⟨P.length - (i + 1), by omega, ci ⟨i + 1, _, _, _, _, _, _, _, _, _, _, _, _, _, _, _, _, _, _, _, _, _, _, _, _, rfl, rfl, by omega, fun j y hj hy => ?_⟩⟩
    by_cases hji : j = i
    ·subst hji
     rw [hx] at hy
     cases hy
     exact h
    ·exact hok j y (by omega) hy
   ·exact endq rfl (.inr ⟨fun hh => h (hh.1 x (List.mem_of_getElem? hx)), rfl⟩)
  ·have hcf : Cf P := fun c hc => by
    obtain ⟨j, hj⟩ := List.getElem?_of_mem hc
    exact hok j c (by have := (List.getElem?_eq_some_iff.1 hj).1; omega) hj
   refine ⟨_, rfl, ?_⟩
   refine callq rfl (within_ct S hS.h140) (by omega) ?_
   rintro _ (⟨h1, rfl⟩ | ⟨h1, rfl⟩)
   ·refine ⟨_, rfl, ?_⟩
    refine callq rfl (within_ct S hS.h140) (by omega) ?_
    rintro _ (⟨h2, rfl⟩ | ⟨h2, rfl⟩)
    ·refine ⟨_, rfl, ?_⟩
     refine callq rfl (within_ct S hS.h140) (by omega) ?_
     rintro _ (⟨h3, rfl⟩ | ⟨h3, rfl⟩)
     ·exact endq rfl (.inl ⟨⟨hcf, h1, h2, h3⟩, rfl⟩)
     ·exact endq rfl (.inr ⟨fun hh => h3 hh.2.2.2, rfl⟩)
    ·exact endq rfl (.inr ⟨fun hh => h2 hh.2.2.1, rfl⟩)
   ·exact endq rfl (.inr ⟨fun hh => h1 hh.2.1, rfl⟩)
structure OldK (S : FuncId -> Option (List AV -> Heap -> Option (AV × Heap))) : Prop where
 c : OldC S
 h45 : S 45 = none
 h138 : S 138 = none
 h200 : S 200 = none
 h238 : S 238 = none
 h201 : S 201 = none
 h202 : S 202 = none
 h239 : S 239 = none
 h141 : S 141 = none
 h205 : S 205 = none
 h206 : S 206 = none
 h182 : S 182 = none
 h228 : S 228 = none
theorem hasDiv_ct (hS : OldK S) {p0 : Int} {cs : List Int} (hc : Cf (p0 :: cs)) (hl : 1 <= cs.length /\ cs.length <= 4) (hm : cs.length = 4 -> ∃ p1 p2 p3, cs = [p1, p2, p3, 1]) :
  Ct (ctx.plus S) 138 [pIs (p0 :: cs)] 3000 fun r => ((cs.length ≠ 1 /\ HasP (p0 :: cs)) /\ r = .bool true) ∨ (¬ (cs.length ≠ 1 /\ HasP (p0 :: cs)) /\ r = .bool false) := by
 intro H W avs hw hr hn
 cases hr with
 | cons h1 hr =>
  cases hr
  refine (hasDiv_run S hS.h138 hS.h200 hS.h238 hS.h201 hS.h182 hS.h228 hS.h202 hS.h239 hS.h141 hS.h205 hS.h206 hn (sl_rel h1).1 hc hl hm).mono ?_
  rintro _ H' ⟨⟨β, rfl, hβ⟩, k⟩
  refine ⟨.bool β, ?_, .bool _, kp_of (k.le (by omega))⟩
  cases β with
  | true => exact .inl ⟨hβ.1 rfl, rfl⟩
  | false => exact .inr ⟨fun h => (by have := hβ.2 h; cases this), rfl⟩
inductive CkE (shape inr form order one : Prop) : Int -> Prop
 | shape : shape -> CkE shape inr form order one 10
 | range : ¬ shape -> ¬ inr -> CkE shape inr form order one 2
 | form : ¬ shape -> inr -> form -> CkE shape inr form order one 3
 | order : ¬ shape -> inr -> ¬ form -> order -> CkE shape inr form order one 9
 | none : ¬ shape -> inr -> ¬ form -> ¬ order -> ¬ one -> CkE shape inr form order one 11
 | ok : ¬ shape -> inr -> ¬ form -> ¬ order -> one -> CkE shape inr form order one 0
def CkP (P : List Int) (lo hi den : Int) : Int -> Prop := CkE (P.length < 2 ∨ 5 < P.length) (InR P lo hi den) (P.getD (P.length - 1) 0 ≠ 1 ∨ (P.length ≠ 2 /\ HasP P)) (hi < lo) (OneP P lo hi den)
theorem check_ct (hS : OldK S) {P : List Int} {lo hi den : Int} (hl : P.length <= 8) : Ct (ctx.plus S) 45 [pF P lo hi den] 200000 fun r => ∃ e, CkP P lo hi den e /\ r = pn e := by
 refine ct_of hS.h45 fn45 ?_
 refine ⟨by omega, ?_⟩
 refine ⟨_, rfl, ?_⟩
 refine ⟨⟨by omega, by omega⟩, ?_⟩
 refine ⟨fun h1 => ?_, fun h1 => ?_⟩
 ·exact endq rfl ⟨_, .shape (.inl (by omega)), rfl⟩
 refine ⟨fun h2 => ?_, fun h2 => ?_⟩
 ·exact endq rfl ⟨_, .shape (.inr (by omega)), rfl⟩
 have hsh : ¬ (P.length < 2 ∨ 5 < P.length) := by omega
 refine ⟨pF P lo hi den, rfl, ?_⟩
 refine callq rfl (inRange_ct S hS.c hl) (by omega) ?_
 rintro _ (⟨hin, rfl⟩ | ⟨hin, rfl⟩)
 ·obtain ⟨p0, cs, rfl⟩ : ∃ c0 cs, P = c0 :: cs := by
   cases P with
   | nil => simp at h1
   | cons c0 cs => exact ⟨c0, cs, rfl⟩
  have hlast := get_at (p := p0 :: cs) (i := (p0 :: cs).length - 1) (by simp)
  have hl2 : 1 <= cs.length /\ cs.length <= 4 := by simp at hsh; omega
  refine ⟨_, rfl, ?_⟩
  refine ⟨⟨⟨by omega, by omega⟩, len_map_le (by omega)⟩, ?_⟩
  refine ⟨_, ld (at_map hlast) (by show _ * 1 = _; omega), ?_⟩
  refine ⟨fun hne => ?_, fun heq => ?_⟩
  ·exact endq rfl ⟨_, .form hsh hin (.inl hne), rfl⟩
  have hm : cs.length = 4 -> ∃ p1 p2 p3, cs = [p1, p2, p3, 1] := fun h4 => by
   match cs, h4 with
   | [p1, p2, p3, p4], _ =>
    simp at heq
    exact ⟨p1, p2, p3, by rw [heq]⟩
  refine ⟨_, rfl, ?_⟩
  refine callq rfl (hasDiv_ct S hS hin.1 hl2 hm) (by omega) ?_
  rintro _ (⟨hd, rfl⟩ | ⟨hd, rfl⟩)
  ·exact endq rfl ⟨_, .form hsh hin (.inr ⟨by simp; omega, hd.2⟩), rfl⟩
  have hfm : ¬ ((p0 :: cs).getD ((p0 :: cs).length - 1) 0 ≠ 1 ∨ ((p0 :: cs).length ≠ 2 /\ HasP (p0 :: cs))) := fun h => by
   rcases h with h | h
   ·exact h heq
   ·exact hd ⟨by have := h.1; simp at this; omega, h.2⟩
  refine ⟨_, rfl, ?_⟩
  refine ⟨_, rfl, ?_⟩
  refine ⟨fun ho => ?_, fun ho => ?_⟩
  ·exact endq rfl ⟨_, .order hsh hin hfm ho, rfl⟩
  refine ⟨pF (p0 :: cs) lo hi den, rfl, ?_⟩
  refine callq rfl (oneRoot_ct S hS.c hin.1 (by omega) hin.2.2.1 hin.2.2.2 hin.2.1) (by omega) ?_
  rintro _ (⟨h1, rfl⟩ | ⟨h1, rfl⟩)
  ·exact endq rfl ⟨_, .ok hsh hin hfm (by omega) h1, rfl⟩
  ·exact endq rfl ⟨_, .none hsh hin hfm (by omega) h1, rfl⟩
 ·exact endq rfl ⟨_, .range hsh hin, rfl⟩
end Go.PI
open Go.Proofs
namespace Go.PI
open IM
theorem fn221 : ctx.fn 221 = some c221 := by kernel_rfl
theorem fn236 : ctx.fn 236 = some c236 := by kernel_rfl
theorem fn196 : ctx.fn 196 = some c196 := by kernel_rfl
set_option maxRecDepth 10000
set_option maxHeartbeats 4000000
theorem pex72 (T : List PV) (h : T.length = 72) : T = [T.getD 0 undefP, T.getD 1 undefP, T.getD 2 undefP, T.getD 3 undefP, T.getD 4 undefP, T.getD 5 undefP, T.getD 6 undefP, T.getD 7 undefP, T.getD 8 undefP, T.getD 9 undefP, T.getD 10 undefP, T.getD 11 undefP, T.getD 12 undefP, T.getD 13 undefP, T.getD 14 undefP, T.getD 15 undefP, T.getD 16 undefP, T.getD 17 undefP, T.getD 18 undefP, T.getD 19 undefP, T.getD 20 undefP, T.getD 21 undefP, T.getD 22 undefP, T.getD 23 undefP, T.getD 24 undefP, T.getD 25 undefP, T.getD 26 undefP, T.getD 27 undefP, T.getD 28 undefP, T.getD 29 undefP, T.getD 30 undefP, T.getD 31 undefP, T.getD 32 undefP, T.getD 33 undefP, T.getD 34 undefP, T.getD 35 undefP, T.getD 36 undefP, T.getD 37 undefP, T.getD 38 undefP, T.getD 39 undefP, T.getD 40 undefP, T.getD 41 undefP, T.getD 42 undefP, T.getD 43 undefP, T.getD 44 undefP, T.getD 45 undefP, T.getD 46 undefP, T.getD 47 undefP, T.getD 48 undefP, T.getD 49 undefP, T.getD 50 undefP, T.getD 51 undefP, T.getD 52 undefP, T.getD 53 undefP, T.getD 54 undefP, T.getD 55 undefP, T.getD 56 undefP, T.getD 57 undefP, T.getD 58 undefP, T.getD 59 undefP, T.getD 60 undefP, T.getD 61 undefP, T.getD 62 undefP, T.getD 63 undefP, T.getD 64 undefP, T.getD 65 undefP, T.getD 66 undefP, T.getD 67 undefP, T.getD 68 undefP, T.getD 69 undefP, T.getD 70 undefP, T.getD 71 undefP] := by
 have := pexpand T
 rw [h] at this
 exact this
variable (S : FuncId -> Option (List AV -> Heap -> Option (AV × Heap)))
def pQ (Xs : List (List Int)) : PV := .lst Xs.length (Xs.map pIs)
theorem rw_get {Xs : List (List Int)} {L : List Int} (h : All2 Rw Xs L) {i : Nat} (hi : i < L.length) : ∃ xs, Xs[i]? = some xs /\ Rw xs (L.getD i 0) := by
 obtain ⟨xs, h1, h2⟩ := All2.get2 h (get_at hi)
 exact ⟨xs, h1, h2⟩
theorem pones_Q : ∀ Xs : List (List Int), pones (Xs.map pIs) = true
 | [] => rfl
 | l :: ls => by simp only [List.map_cons, pones, pones_Q ls, Bool.and_true]; rfl
theorem rat_ct (hR : OldR S) (h221 : S 221 = none) {Xs : List (List Int)} {L : List Int} {xa xb : List Int} {a b : Int} (hX : All2 Rw Xs L) (hxa : Rw xa a) (hxb : Rw xb b) (ha : -1000000 <= a /\ a <= 1000000) (hb : -1000000 <= b /\ b <= 1000000)
  (hL : ∀ c ∈ L, -pw 183 < c /\ c < pw 183) (hl : L.length <= 5) :
  Ct (ctx.plus S) 221 [pQ Xs, pIs xa, pIs xb] 100000000 fun r => r = pI (vS L a b).1 := by
 refine ct_of h221 fn221 ?_
 have p1 : pw 1 = 100000000 := by decide
 have la : (digits a).length <= 1 := len_of (k := 1) (by omega)
 have lb : (digits b).length <= 1 := len_of (k := 1) (by omega)
 have hXl := hX.length
 have bnd : ∀ j, (digits (vS (L.drop j) a b).1).length <= 188 /\ (digits (vS (L.drop j) a b).2).length <= 6 := fun j => by
  obtain ⟨h1, h2⟩ := vS_bound (k := 183) ha hb (L.drop j) fun c hc => hL c (List.mem_of_mem_drop hc)
  have hd : (L.drop j).length <= 5 := by simp; omega
  have m1 := pw_mono (show 183 + (L.drop j).length <= 188 by omega)
  have m2 := pw_mono (show (L.drop j).length <= 5 by omega)
  have e9 : pw 6 = 100000000 * pw 5 := rfl
  have := pw_pos 5
  exact ⟨len_of (by omega), len_of (by omega)⟩
 refine ⟨by omega, _, rfl, ?_⟩
 refine ⟨⟨by omega, by omega⟩, ?_⟩
 refine ⟨fun m s => ∃ (i : Nat) (n : Int) (v sc : PV) (σ : List StB) (q : Nat) (j3 j4 j5 j6 ja jb jc jd je jf jg jh ji jj jk jl jm jn jo jp jq jr js jt ju jv : PV),
  s = ⟨[pQ Xs, pIs xa, pIs xb, j3, j4, j5, j6, v, sc, pn n, ja, jb, jc, jd, je, jf, jg, jh, ji, jj, jk, jl, jm, jn, jo, jp, jq, jr, js, jt, ju, jv], σ, q⟩ /\ m = i /\ n = (i : Int) - 1 /\ i <= L.length /\ (∀ σ, Fz v σ (pI (vS (L.drop i) a b).1) σ) /\ Fzs sc σ (pI (vS (L.drop i) a b).2) /\ q <= 1 + 10000000 * (L.length - i), ⟨L.length, ?_⟩, ?_⟩
 ·refine ci ⟨L.length, _, _, _, _, _, _, _, _, _, _, _, _, _, _, _, _, _, _, _, _, _, _, _, _, _, _, _, _, _, _, _, rfl, rfl, by rw [hXl], Nat.le_refl _, ?_, ?_, by omega⟩
  ·rw [List.drop_length]; exact fun σ => fzN
  ·rw [List.drop_length]; exact fzs_own rfl (by decide) (by decide) rfl
 ·rintro m s ⟨i, n, v, sc, σ, q, j3, j4, j5, j6, ja, jb, jc, jd, je, jf, jg, jh, ji, jj, jk, jl, jm, jn, jo, jp, jq, jr, js, jt, ju, jv, rfl, hm, rfl, hi, hv, ⟨σ', hs1, hs2, -⟩, hq⟩
  refine ⟨fun hge => ?_, fun hlt => ?_⟩
  ·obtain ⟨i, rfl⟩ : ∃ j, i = j + 1 := ⟨i - 1, by omega⟩
   obtain ⟨xs, hxi, hxr⟩ := rw_get hX (i := i) (by omega)
   obtain ⟨c, hc⟩ : ∃ c, L.getD i 0 = c := ⟨_, rfl⟩
   have he : L[i]? = some c := by rw [← hc]; exact get_at (by omega)
   rw [hc] at hxr
   have hcb := hL c (List.mem_of_getElem? he)
   have hd : L.drop i = c :: L.drop (i + 1) := drop_of_get he
   have hb1 := bnd (i + 1)
   have lc : (digits c).length <= 183 := len_of (by omega)
   have v1 := vS_bound (k := 183) ha hb (L.drop (i + 1)) fun c hc => hL c (List.mem_of_mem_drop hc)
   have hd8 : (L.drop (i + 1)).length <= 4 := by simp; omega
   have m7 := pw_mono (show 183 + (L.drop (i + 1)).length <= 187 by omega)
   have m8 := pw_mono (show (L.drop (i + 1)).length <= 4 by omega)
   have e208 : pw 188 = 100000000 * pw 187 := rfl
   have e207 : pw 183 * pw 4 <= pw 187 := by rw [← pw_add]; exact pw_mono (by omega)
   have x1 := mul_bd (a := (vS (L.drop (i + 1)) a b).1) (b := a) (m := pw 187) (n := 1000000) (by omega) ha
   have x2 := mul_bd (a := c) (b := (vS (L.drop (i + 1)) a b).2) (m := pw 183) (n := pw 4) (by omega) (by omega)
   have p207 := pw_pos 187
   have l1 : (digits ((vS (L.drop (i + 1)) a b).1 * a)).length <= 188 := len_of (by omega)
   have l2 : (digits (c * (vS (L.drop (i + 1)) a b).2)).length <= 188 := len_of (by omega)
   refine ⟨by kernel_rfl, ?_⟩
   refine cal2 (hv _) fzL (rmul_ct S hR (X := (vS (L.drop (i + 1)) a b).1) (Y := a) (Rw.of (by omega)) hxa (by omega)) (by omega) ?_
   rintro _ rfl
   refine ⟨⟨⟨by omega, by omega⟩, len_map_le (by omega)⟩, ?_⟩
   refine ⟨_, ld (at_map hxi) (by show _ * 1 = i; omega), rfl, ?_⟩
   refine cal2 fzL hs1 (rmul_ct S hR (X := c) (Y := (vS (L.drop (i + 1)) a b).2) hxr (Rw.of (by omega)) (by omega)) (by omega) ?_
   rintro _ rfl
   refine callq rfl ((radd_ct S hR (X := (vS (L.drop (i + 1)) a b).1 * a) (Y := c * (vS (L.drop (i + 1)) a b).2) (Rw.of (by omega)) (Rw.of (by omega))).post fun r h => h.trans (congrArg pI (show _ = (vS (L.drop i) a b).1 by rw [hd]; rfl))) (by omega) ?_
   rintro _ rfl
   refine cal2 hs2 fzL (rmul_ct S hR (X := (vS (L.drop (i + 1)) a b).2) (Y := b) (Rw.of (by omega)) hxb (by omega)) (by omega) ?_
   rintro _ rfl
   refine ⟨⟨by omega, by omega⟩, ?_⟩
   refine ⟨i, by omega, ci ⟨i, _, _, _, _, _, _, _, _, _, _, _, _, _, _, _, _, _, _, _, _, _, _, _, _, _, _, _, _, _, _, _, rfl, rfl, by omega, by omega, ?_, ?_, by omega⟩⟩
   ·exact fun σ => fzL
   ·rw [hd]; exact fzs_any fun σ => fzL
  ·have e : i = 0 := by omega
   subst e
   exact endf (hv _) rfl
theorem short_ct (hR : OldR S) (h236 : S 236 = none) {Xs : List (List Int)} {L : List Int} (hX : All2 Rw Xs L) (hl : L.length <= 8) : Ct (ctx.plus S) 236 [pQ Xs] 1000000 fun r => r = pQ (Xs.take (trimL L).length) := by
 refine ct_of h236 fn236 ?_
 have hXl := hX.length
 refine ⟨fun m s => ∃ (i k : Nat) (j1 j2 j4 j5 j6 j7 j8 j9 ja jb jc jd je jf jg jh ji jj jk jl : PV),
  s = ⟨[pQ Xs, j1, j2, pn (i : Int), j4, j5, j6, j7, j8, j9, ja, jb, jc, jd, je, jf, jg, jh, ji, jj, jk, jl], [], k⟩ /\ m = i /\ i <= L.length /\ (∀ j, i <= j -> j < L.length -> L[j]? = some 0) /\ k <= 100000 * (L.length - i), ⟨L.length, ?_⟩, ?_⟩
 ·exact ci ⟨L.length, _, _, _, _, _, _, _, _, _, _, _, _, _, _, _, _, _, _, _, _, _, by rw [← hXl]; rfl, rfl, Nat.le_refl _, fun j h1 h2 => by omega, by omega⟩
 ·rintro m s ⟨i, k, j1, j2, j4, j5, j6, j7, j8, j9, ja, jb, jc, jd, je, jf, jg, jh, ji, jj, jk, jl, rfl, hm, hi, hz, hk⟩
  have fin : (i = 0 ∨ ∃ x, L[i - 1]? = some x /\ x ≠ 0) -> (Xs.map pIs).take i = (Xs.take (trimL L).length).map pIs /\ (Xs.take (trimL L).length).length = i := fun h => by
   have h1 := trim_is (xs := L) (n := i) (by omega) hz h
   have h2 : (trimL L).length = i := by rw [h1]; simp; omega
   rw [h2]
   exact ⟨by rw [List.map_take], by simp; omega⟩
  refine ⟨fun hpos => ?_, fun hz0 => ?_⟩
  ·obtain ⟨xs, hxi, hxr⟩ := rw_get hX (i := i - 1) (by omega)
   obtain ⟨x, hx⟩ : ∃ x, L.getD (i - 1) 0 = x := ⟨_, rfl⟩
   have he : L[i - 1]? = some x := by rw [← hx]; exact get_at (by omega)
   rw [hx] at hxr
   refine ⟨⟨by omega, by omega⟩, ?_⟩
   refine ⟨⟨⟨by omega, by omega⟩, len_map_le (by omega)⟩, ?_⟩
   refine ⟨_, ld (at_map hxi) (by show _ * 1 = i - 1; omega), ?_⟩
   refine callq rfl (rsign_ct S hR hxr) (by omega) ?_
   rintro _ rfl
   refine ⟨fun h0 => ?_, fun h0 => ?_⟩
   ·have hx0 : x = 0 := Int.sign_eq_zero_iff_zero.1 h0
    subst hx0
    refine ⟨⟨by omega, by omega⟩, ?_⟩
    have e1 : (i : Int) - 1 = ((i - 1 : Nat) : Int) := by omega
    rw [e1]
    refine ⟨i - 1, by omega, ci ⟨i - 1, _, _, _, _, _, _, _, _, _, _, _, _, _, _, _, _, _, _, _, _, _, rfl, rfl, by omega, fun j h1 h2 => ?_, by omega⟩⟩
    by_cases hj : j = i - 1
    ·rw [hj]; exact he
    ·exact hz j (by omega) h2
   ·obtain ⟨g1, g2⟩ := fin (.inr ⟨x, he, fun h => h0 (by rw [h]; rfl)⟩)
    refine ⟨by rw [List.length_map]; show _ = _ * 1; omega, ⟨by omega, by omega⟩, fun _ => rfl, (Xs.take (trimL L).length).map pIs, ?_, endq rfl ?_⟩
    ·rw [← g1]; show List.take ((_ - 0) * 1) (List.drop (0 * 1) _) = _; simp
    ·show PV.lst _ _ = pQ _
     rw [pQ, g2]
     rfl
  ·obtain ⟨g1, g2⟩ := fin (.inl (by omega))
   refine ⟨by rw [List.length_map]; show _ = _ * 1; omega, ⟨by omega, by omega⟩, fun _ => rfl, (Xs.take (trimL L).length).map pIs, ?_, endq rfl ?_⟩
   ·rw [← g1]; show List.take ((_ - 0) * 1) (List.drop (0 * 1) _) = _; simp
   ·show PV.lst _ _ = pQ _
    rw [pQ, g2]
    rfl
end Go.PI
