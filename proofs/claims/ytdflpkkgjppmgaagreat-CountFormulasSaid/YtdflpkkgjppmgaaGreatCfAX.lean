/- Own work of the verifier: CiSettle CiNormal CiFresh CiPlus. -/
import Derived.Test.YtdflpkkgjppmgaaGreatCfAW
set_option linter.all false
set_option exponentiation.threshold 3000
set_option linter.deprecated false
open Go.Proofs
namespace Go.PI
open IM
theorem fn119 : ctx.fn 119 = some c119 := by kernel_rfl
def Sml (xs : List Int) : Prop := ∀ x ∈ xs, -100000000 < x ∧ x < 100000000
set_option maxRecDepth 10000
set_option maxHeartbeats 1000000
variable (S : FuncId → Option (List AV → Heap → Option (AV × Heap)))
theorem sgn_cases (xs : List Int) : (xs = [] ∧ sgnL xs = 0) ∨ sgnL xs = 1 ∨ sgnL xs = -1 := by
  unfold sgnL
  cases h : xs.getLast? with
  | none => exact .inl ⟨by simpa using h, rfl⟩
  | some t => by_cases ht : t < 0 <;> simp [ht]
theorem borrow_run (hS : S 157 = none) (hS1 : S 183 = none) {H : Heap} {v : AV} {b : Nat} {zs : List Int} {l : Nat} (hn : H.n < lim) (hlb : l ≤ 1073741824) (h : Ow H v b zs l) (hs : Sml (zs.take l)) :
    Cl (ctx.plus S) 157 [v] H fun _ H' => Upd H b (.cells true 3 (ints (borrowB (sgnL (zs.take l)) 0 (zs.take l) ++ zs.drop l))) H' := by
  refine cl_of hS fn157 ?_
  have hT : (ctx.plus S).ty = tget := rfl
  have hlz := h.2.1
  have hlen : (zs.take l).length = l := by simp; omega
  refine (sign_run S hS1 (v := v) (by omega) h.sl).mono ?_
  rintro _ _ ⟨rfl, rfl⟩
  refine ⟨_, len_sl hT (v := v) rfl h.sl, ?_⟩
  rw [hlen]
  refine ⟨⟨by omega, by omega⟩, ?_⟩
  have hu := sgn_cases (zs.take l)
  generalize sgnL (zs.take l) = u at hu ⊢
  refine ⟨fun m s => ∃ (i : Nat) (n : Int) (H' : Heap) (j1 j3 j4 j5 j7 j10 j11 j12 j13 j14 j15 j16 j17 j18 j19 j20 j21 j22 j23 j24 j25 j26 j27 j28 j29 j30 j31 j32 j33 j34 j35 : AV),
    s = ⟨[v, j1, iv u, j3, j4, j5, v, j7, iv ((l : Int) - 1), iv n, j10, j11, j12, j13, j14, j15, j16, j17, j18, j19, j20, j21, j22, j23, j24, j25, j26, j27, j28, j29, j30, j31, j32, j33, j34, j35], H', []⟩ ∧ m = l - i ∧ n = i ∧
      (l = 0 ∧ i = 0 ∧ H' = H ∨ ∃ (B : List Int) (d x : Int) (rest : List Int), B.length = i ∧ i + 1 + rest.length = l ∧ (d = 0 ∨ d = u) ∧ (u = 1 ∨ u = -1) ∧ -100000000 < x ∧ x < 100000000 ∧ Sml rest ∧
        borrowB u 0 (zs.take l) = B ++ borrowB u d (x :: rest) ∧ Upd H b (.cells true 3 (ints (B ++ (x - d) :: rest ++ zs.drop l))) H'), ⟨l, ?_⟩, ?_⟩
  · refine ⟨0, 0, H, _, _, _, _, _, _, _, _, _, _, _, _, _, _, _, _, _, _, _, _, _, _, _, _, _, _, _, _, _, _, _, rfl, rfl, rfl, ?_⟩
    rcases hu with ⟨h1, -⟩ | hu
    · rw [h1] at hlen; simp at hlen; exact .inl ⟨hlen.symm, rfl, rfl⟩
    · cases hz : zs.take l with
      | nil => rw [hz] at hlen; simp at hlen; exact .inl ⟨hlen.symm, rfl, rfl⟩
      | cons x rest =>
        rw [hz] at hs hlen
        have hx := hs x (by simp)
        refine .inr ⟨[], 0, x, rest, rfl, by simp at hlen; omega, .inl rfl, hu, hx.1, hx.2, fun y hy => hs y (by simp [hy]), rfl, Upd.refl ?_⟩
        rw [h.1, Int.sub_zero, List.nil_append, ← hz, List.take_append_drop]
  · rintro m s ⟨i, n, H', j1, j3, j4, j5, j7, j10, j11, j12, j13, j14, j15, j16, j17, j18, j19, j20, j21, j22, j23, j24, j25, j26, j27, j28, j29, j30, j31, j32, j33, j34, j35, rfl, hm, rfl, hI⟩
    refine ⟨fun hlt => ?_, fun hge => ?_⟩
    · rcases hI with ⟨rfl, rfl, -⟩ | ⟨B, d, x, rest, hB, hl, hd, hu1, hx1, hx2, hsr, hbr, hU⟩
      · exact absurd hlt (by omega)
      cases rest with
      | nil => exact absurd hlt (by simp at hl; omega)
      | cons y ys =>
      have hy := hsr y (by simp)
      have hOw : Ow H' v b (B ++ (x - d) :: y :: ys ++ zs.drop l) l := h.keep hU.at_ (by simp at hl ⊢; omega)
      have htk : (B ++ (x - d) :: y :: ys ++ zs.drop l).take l = B ++ (x - d) :: y :: ys := by
        rw [List.take_append_of_le_length (by simp at hl ⊢; omega), List.take_of_length_le (by simp at hl ⊢; omega)]
      have hsl := hOw.sl
      rw [htk] at hsl
      have hg : (B ++ (x - d) :: y :: ys)[i]? = some (x - d) := by rw [List.getElem?_append_right (by omega), hB, Nat.sub_self]; rfl
      have hil : i < (B ++ (x - d) :: y :: ys).length := by simp at hl ⊢; omega
      have hil2 : i + 1 < l := by simp at hl; omega
      have hn' : H'.n < lim := by rw [hU.n]; exact hn
      refine ⟨_, idx_sl hT (v := v) (n := i) rfl rfl hsl rfl hil, ?_⟩
      refine ⟨_, load_sl hT hsl hg, ?_⟩
      refine ⟨⟨by rcases hu1 with rfl | rfl <;> rcases hd with rfl | rfl <;> omega, by rcases hu1 with rfl | rfl <;> rcases hd with rfl | rfl <;> omega⟩, ?_⟩
      refine ⟨fun hneg => ?_, fun hpos => ?_⟩
      · refine ⟨_, idx_sl hT (v := v) (n := i) rfl rfl hsl rfl hil, ?_⟩
        refine ⟨_, load_sl hT hsl hg, ?_⟩
        refine ⟨⟨by rcases hu1 with rfl | rfl <;> omega, by rcases hu1 with rfl | rfl <;> omega⟩, ?_⟩
        refine ⟨⟨by rcases hu1 with rfl | rfl <;> rcases hd with rfl | rfl <;> omega, by rcases hu1 with rfl | rfl <;> rcases hd with rfl | rfl <;> omega⟩, ?_⟩
        refine ⟨_, idx_sl hT (v := v) (n := i) rfl rfl hsl rfl hil, ?_⟩
        refine ⟨_, store_ow hT hOw (by omega), ?_⟩
        have hset : (B ++ (x - d) :: y :: ys ++ zs.drop l).set i (x - d + u * 100000000) = B ++ (x - d + u * 100000000) :: y :: ys ++ zs.drop l := by
          rw [List.append_assoc, List.set_append_right _ _ (by omega), hB, Nat.sub_self]; simp
        rw [hset]
        have hU2 : Upd H b (.cells true 3 (ints (B ++ (x - d + u * 100000000) :: y :: ys ++ zs.drop l))) (H'.set b (.cells true 3 (ints (B ++ (x - d + u * 100000000) :: y :: ys ++ zs.drop l)))) := hU.trans (upd_set hOw.lt hn')
        generalize H'.set b _ = H2 at hU2
        have hOw2 : Ow H2 v b (B ++ (x - d + u * 100000000) :: y :: ys ++ zs.drop l) l := h.keep hU2.at_ (by simp at hl ⊢; omega)
        have htk2 : (B ++ (x - d + u * 100000000) :: y :: ys ++ zs.drop l).take l = B ++ (x - d + u * 100000000) :: y :: ys := by
          rw [List.take_append_of_le_length (by simp at hl ⊢; omega), List.take_of_length_le (by simp at hl ⊢; omega)]
        have hsl2 := hOw2.sl
        rw [htk2] at hsl2
        have hg2 : (B ++ (x - d + u * 100000000) :: y :: ys)[i + 1]? = some y := by rw [List.getElem?_append_right (by omega), hB, Nat.add_sub_cancel_left]; rfl
        have hil3 : i + 1 < (B ++ (x - d + u * 100000000) :: y :: ys).length := by simp at hl ⊢; omega
        refine ⟨⟨by omega, by omega⟩, ?_⟩
        refine ⟨_, idx_sl hT (v := v) (n := (i : Int) + 1) (k := i + 1) rfl rfl hsl2 rfl hil3, ?_⟩
        refine ⟨_, load_sl hT hsl2 hg2, ?_⟩
        refine ⟨⟨by rcases hu1 with rfl | rfl <;> omega, by rcases hu1 with rfl | rfl <;> omega⟩, ?_⟩
        refine ⟨_, idx_sl hT (v := v) (n := (i : Int) + 1) (k := i + 1) rfl rfl hsl2 rfl hil3, ?_⟩
        refine ⟨_, store_ow hT hOw2 hil2, ?_⟩
        refine ⟨⟨by omega, by omega⟩, ?_⟩
        refine ⟨l - (i + 1), by omega, i + 1, _, _, _, _, _, _, _, _, _, _, _, _, _, _, _, _, _, _, _, _, _, _, _, _, _, _, _, _, _, _, _, _, _, rfl, rfl, rfl, .inr ⟨B ++ [x - d + u * 100000000], u, y, ys, by simp [hB], by simp at hl; omega, .inr rfl, hu1, hy.1, hy.2, fun z hz => hsr z (by simp [hz]), ?_, ?_⟩⟩
        · rw [hbr]
          conv => lhs; unfold borrowB
          rw [if_pos hneg]; simp
        · have hset2 : (B ++ (x - d + u * 100000000) :: y :: ys ++ zs.drop l).set (i + 1) (y - u) = B ++ [x - d + u * 100000000] ++ (y - u) :: ys ++ zs.drop l := by
            rw [List.append_assoc, List.set_append_right _ _ (by omega), hB, Nat.add_sub_cancel_left]; simp
          rw [← hset2]
          exact hU2.trans (upd_set hOw2.lt (by rw [hU2.n]; exact hn))
      · refine ⟨⟨by omega, by omega⟩, ?_⟩
        refine ⟨l - (i + 1), by omega, i + 1, _, _, _, _, _, _, _, _, _, _, _, _, _, _, _, _, _, _, _, _, _, _, _, _, _, _, _, _, _, _, _, _, _, rfl, rfl, rfl, .inr ⟨B ++ [x - d], 0, y, ys, by simp [hB], by simp at hl; omega, .inl rfl, hu1, hy.1, hy.2, fun z hz => hsr z (by simp [hz]), ?_, ?_⟩⟩
        · rw [hbr]
          conv => lhs; unfold borrowB
          rw [if_neg (by omega)]; simp
        · rw [Int.sub_zero, List.append_assoc B [x - d]]
          exact hU
    · rcases hI with ⟨h0, -, hHH⟩ | ⟨B, d, x, rest, hB, hl, hd, hu1, hx1, hx2, hsr, hbr, hU⟩
      · subst h0 hHH
        have hfin : Upd H' b (.cells true 3 (ints (borrowB u 0 (zs.take 0) ++ zs.drop 0))) H' := Upd.refl (by simpa [borrowB] using h.1)
        exact hfin
      · cases rest with
        | cons y ys => exact absurd hge (by simp at hl; omega)
        | nil =>
          have hfin : Upd H b (.cells true 3 (ints (borrowB u 0 (zs.take l) ++ zs.drop l))) H' := by
            rw [hbr]
            simpa [borrowB] using hU
          exact hfin
structure Mine (H0 : Heap) (b0 : Nat) (v : AV) (xs : List Int) (H : Heap) : Prop where
  n : H0.n ≤ H.n
  keep : ∀ A, A < H0.n → A ≠ b0 → H.get A = H0.get A
  at_ : ∃ b zs, Ow H v b zs xs.length ∧ zs.take xs.length = xs ∧ (b = b0 ∨ H0.n ≤ b)
theorem append_mine {C : Ctx} (hT : C.ty = tget) {H0 H : Heap} {b0 : Nat} {v : AV} {xs : List Int} {e : Int} (hn : H.n + 1 < lim) (hl : xs.length ≤ 1073741824) (h : Mine H0 b0 v xs H) :
    ∃ r H', appendE C [22, 22] v (.sl H.n 0 1 1) (H.push (.cells true 3 [iv e])) = some (r, H') ∧ Mine H0 b0 r (xs ++ [e]) H' ∧ H'.n ≤ H.n + 2 := by
  obtain ⟨h1, h2, b, zs, hO, hx, hb⟩ := h
  have hbn := hO.lt
  have hp : ∀ A, (H.push (.cells true 3 [iv e])).get A = if A = H.n then .cells true 3 [iv e] else H.get A := Heap.get_push (by omega)
  have hpn : (H.push (.cells true 3 [iv e])).n = H.n + 1 := rfl
  have hcells : cellsE (H.push (.cells true 3 [iv e])) 1 1 (.sl H.n 0 1 1) = some [iv e] := by
    simp [cellsE, hp]
  have hxe : (zs.take xs.length) = xs := hx
  obtain ⟨g1, g2, g3⟩ := hO
  have hgb : (H.push (.cells true 3 [iv e])).get b = .cells true 3 (ints zs) := by rw [hp, if_neg (by omega)]; exact g1
  have hone : ones [iv e] = true := rfl
  have hnlim : ¬ lim ≤ H.n + 1 := by omega
  rcases g3 with ⟨c, rfl, g4, g5⟩ | rfl
  · by_cases hc : xs.length + 1 ≤ c
    · have hsn : ((H.push (.cells true 3 [iv e])).set b (.cells true 3 (ints (zs.set xs.length e)))).n = H.n + 1 := rfl
      refine ⟨.sl b 0 (xs.length + 1) c, (H.push (.cells true 3 [iv e])).set b (.cells true 3 (ints (zs.set xs.length e))), ?_, ⟨by omega, ?_, b, zs.set xs.length e, ⟨?_, by simp; omega, .inl ⟨c, by simp, by simp; omega, by simp; omega⟩⟩, ?_, hb⟩, ?_⟩
      · simp only [appendE, ty22 hT, ty3 hT, t22, t3, srcOk, lenE, hcells, hone, hgb, hpn]
        simp only [Bool.true_eq_false, false_or, hnlim, or_false]
        simp
        rw [if_pos hc, splice_one (by rw [ints_length]; omega), ints_set, if_pos (by rw [ints_length]; omega)]
        exact ⟨hl, rfl⟩
      · intro A hA hA2
        rw [Heap.get_set (by omega) (by omega)]
        by_cases hAb : A = b
        · rcases hb with rfl | hb
          · exact absurd hAb hA2
          · omega
        · rw [if_neg hAb, hp, if_neg (by omega)]; exact h2 A hA hA2
      · rw [Heap.get_set (by omega) (by omega), if_pos rfl]
      · have hlt : xs.length < zs.length := by omega
        rw [List.length_append, List.length_singleton, List.take_add_one, List.take_set_of_le (Nat.le_refl _), hxe, List.getElem?_set_self hlt]; rfl
      · omega
    · refine ⟨.slu (H.n + 1) 0 (xs.length + 1) 1, (H.push (.cells true 3 [iv e])).push (.cells true 3 (ints (xs ++ [e]))), ?_, ⟨?_, ?_, H.n + 1, xs ++ [e], ⟨?_, by simp, .inr (by simp)⟩, List.take_of_length_le (Nat.le_refl _), .inr (by omega)⟩, ?_⟩
      · simp only [appendE, ty22 hT, ty3 hT, t22, t3, srcOk, lenE, hcells, hone, hgb, hpn]
        simp only [Bool.true_eq_false, false_or, hnlim, or_false]
        have hti : List.take xs.length (ints zs) ++ [iv e] = ints (xs ++ [e]) := by rw [ints_take, hxe, ints_append]; rfl
        simp [hc, hti]
        rw [ints_length]; omega
      · show H0.n ≤ H.n + 1 + 1
        omega
      · intro A hA hA2
        rw [Heap.get_push (by omega), hpn, if_neg (by omega), hp, if_neg (by omega)]; exact h2 A hA hA2
      · rw [Heap.get_push (by omega), hpn, if_pos rfl]
      · show H.n + 1 + 1 ≤ H.n + 2
        omega
  · refine ⟨.slu (H.n + 1) 0 (xs.length + 1) 1, ((H.push (.cells true 3 [iv e])).set b .dead).push (.cells true 3 (ints (xs ++ [e]))), ?_, ⟨?_, ?_, H.n + 1, xs ++ [e], ⟨?_, by simp, .inr (by simp)⟩, List.take_of_length_le (Nat.le_refl _), .inr (by omega)⟩, ?_⟩
    · simp only [appendE, ty22 hT, ty3 hT, t22, t3, srcOk, lenE, hcells, hone, hgb, hpn]
      simp only [Bool.true_eq_false, false_or, hnlim, or_false]
      have hti : List.take xs.length (ints zs) ++ [iv e] = ints (xs ++ [e]) := by rw [ints_take, hxe, ints_append]; rfl
      simp [hti]
      rw [ints_length]; omega
    · show H0.n ≤ H.n + 1 + 1
      omega
    · intro A hA hA2
      have hsn : ((H.push (.cells true 3 [iv e])).set b .dead).n = H.n + 1 := rfl
      rw [Heap.get_push (by omega), hsn, if_neg (by omega), Heap.get_set (by omega) (by omega), hp]
      by_cases hAb : A = b
      · rcases hb with rfl | hb
        · exact absurd hAb hA2
        · omega
      · rw [if_neg hAb, if_neg (by omega)]; exact h2 A hA hA2
    · have hsn : ((H.push (.cells true 3 [iv e])).set b .dead).n = H.n + 1 := rfl
      rw [Heap.get_push (by omega), hsn, if_pos rfl]
    · show H.n + 1 + 1 ≤ H.n + 2
      omega
theorem Mine.sl {H0 H : Heap} {b0 : Nat} {v : AV} {xs : List Int} (h : Mine H0 b0 v xs H) : Sl H v xs := by
  obtain ⟨-, -, b, zs, hO, hx, -⟩ := h
  have := hO.sl
  rwa [hx] at this
theorem Mine.upd {H0 H H' : Heap} {b0 b : Nat} {v : AV} {xs ys : List Int} {zs : List Int} (h : Mine H0 b0 v xs H) (hO : Ow H v b zs xs.length) (hb : b = b0 ∨ H0.n ≤ b) (hl : ys.length = xs.length) (hU : Upd H b (.cells true 3 (ints (ys ++ zs.drop xs.length))) H') : Mine H0 b0 v ys H' := by
  refine ⟨by rw [hU.n]; exact h.n, fun A hA hA2 => ?_, b, ys ++ zs.drop xs.length, ?_, by simp, hb⟩
  · rw [hU.other A (fun e => by subst e; rcases hb with rfl | hb; exact hA2 rfl; omega)]
    exact h.keep A hA hA2
  · rw [hl]
    have := hO.2.1
    exact hO.keep hU.at_ (by simp; omega)
theorem carry_mine (hS : S 155 = none) {H0 H : Heap} {b0 : Nat} {v : AV} {xs : List Int} (hn : H.n < lim) (hlb : xs.length ≤ 1073741824) (h : Mine H0 b0 v xs H) (hr : ∀ x ∈ xs, In64 x) :
    Cl (ctx.plus S) 155 [v] H fun r H' => r = iv (carryO 0 xs) ∧ Mine H0 b0 v (carryL 0 xs) H' ∧ H'.n = H.n := by
  obtain ⟨-, -, b, zs, hO, hx, hb⟩ := id h
  refine (carry_run S hS hn hlb hO (by rw [hx]; exact hr)).mono ?_
  rintro r H' ⟨rfl, hU⟩
  rw [hx] at hU ⊢
  exact ⟨rfl, h.upd hO hb (carry_length _ _) hU, hU.n⟩
theorem trim_mine (hS : S 156 = none) {H0 H : Heap} {b0 : Nat} {v : AV} {xs : List Int} (hlb : xs.length ≤ 1073741824) (h : Mine H0 b0 v xs H) :
    Cl (ctx.plus S) 156 [v] H fun r H' => H = H' ∧ Mine H0 b0 r (trimL xs) H := by
  obtain ⟨h1, h2, b, zs, hO, hx, hb⟩ := h
  refine (trim_run S hS hlb hO).mono ?_
  rintro r _ ⟨rfl, hO2⟩
  rw [hx] at hO2
  obtain ⟨g1, -, g3⟩ := trim_take xs
  refine ⟨rfl, h1, h2, b, zs, hO2, ?_, hb⟩
  conv => rhs; rw [g1, ← hx]
  rw [List.take_take, Nat.min_eq_left (by rw [hx]; exact g3), hx]
theorem borrow_mine (hS : S 157 = none) (hS1 : S 183 = none) {H0 H : Heap} {b0 : Nat} {v : AV} {xs : List Int} (hn : H.n < lim) (hlb : xs.length ≤ 1073741824) (h : Mine H0 b0 v xs H) (hs : Sml xs) :
    Cl (ctx.plus S) 157 [v] H fun _ H' => Mine H0 b0 v (borrowB (sgnL xs) 0 xs) H' ∧ H'.n = H.n := by
  obtain ⟨-, -, b, zs, hO, hx, hb⟩ := id h
  refine (borrow_run S hS hS1 hn hlb hO (by rw [hx]; exact hs)).mono ?_
  intro r H' hU
  rw [hx] at hU
  exact ⟨h.upd hO hb (borrow_length _ _ _) hU, hU.n⟩
theorem settle_run (h119 : S 119 = none) (h155 : S 155 = none) (h156 : S 156 = none) (h157 : S 157 = none) (h183 : S 183 = none) {H : Heap} {b0 : Nat} {H0 : Heap} {v : AV} {xs : List Int} (hn : H.n + 8 < lim) (hlb : xs.length ≤ 1000000000) (h : Mine H0 b0 v xs H) (hr : ∀ x ∈ xs, In64 x) :
    Cl (ctx.plus S) 119 [v] H fun r H' => Mine H0 b0 r (digits (val xs)) H' ∧ H'.n ≤ H.n + 6 := by
  refine cl_of h119 fn119 ?_
  have hT : (ctx.plus S).ty = tget := rfl
  refine (carry_mine S h155 (by omega) (by omega) h hr).mono ?_
  rintro _ H1 ⟨rfl, hM, hn1⟩
  have ho3 := ov_three (fun x hx => hr x hx)
  have hov := carryO_small xs (fun x hx => hr x hx) 0 (by unfold OvB; omega)
  have hcl := carry_length xs 0
  refine ⟨fun m s => ∃ (k : Nat) (o : Int) (u : AV) (ds : List Int) (H' : Heap) (j1 j2 j4 j5 j6 j7 j8 j9 j10 j11 j12 j13 j14 j15 j16 j17 j18 j19 j20 : AV),
    s = ⟨[u, j1, j2, iv o, j4, j5, j6, j7, j8, j9, j10, j11, j12, j13, j14, j15, j16, j17, j18, j19, j20], H', []⟩ ∧ m = k ∧ k ≤ 3 ∧ OvB o ∧ Mine H0 b0 u (carryL 0 xs ++ ds) H' ∧ H'.n ≤ H.n + 2 * (3 - k) ∧ ds ++ overL k o = overL 3 (carryO 0 xs) ∧ o.natAbs < 100000000 ^ k ∧ ds.length = 3 - k, ⟨3, ?_⟩, ?_⟩
  · exact ⟨3, carryO 0 xs, v, [], H1, _, _, _, _, _, _, _, _, _, _, _, _, _, _, _, _, _, _, _, rfl, rfl, by omega, hov, by simpa using hM, by omega, by simp, ho3, rfl⟩
  · rintro m s ⟨k, o, u, ds, H', j1, j2, j4, j5, j6, j7, j8, j9, j10, j11, j12, j13, j14, j15, j16, j17, j18, j19, j20, rfl, hm, hk3, hoB, hM', hn', hds, hok, hdl⟩
    refine ⟨fun hne => ?_, fun h0 => ?_⟩
    · obtain ⟨k, rfl⟩ : ∃ j, k = j + 1 := by
        cases k with
        | zero => simp at hok; exact absurd hok hne
        | succ j => exact ⟨j, rfl⟩
      unfold OvB at hoB
      have ho := tq o
      refine ⟨by decide, ?_⟩
      refine ⟨by omega, _, _, rfl, ?_⟩
      obtain ⟨r, H2, ha, hM2, hn2⟩ := append_mine hT (C := ctx.plus S) (e := o.tmod 100000000) (by omega) (by simp [hcl]; omega) hM'
      refine ⟨r, H2, ha, ?_⟩
      refine ⟨⟨by decide, ⟨by omega, by omega⟩⟩, ?_⟩
      refine ⟨k, by omega, k, _, _, ds ++ [o.tmod 100000000], H2, _, _, _, _, _, _, _, _, _, _, _, _, _, _, _, _, _, _, _, rfl, rfl, by omega, ?_, by rw [← List.append_assoc]; exact hM2, by omega, ?_, ?_, by simp; omega⟩
      · unfold OvB; omega
      · rw [← hds, List.append_assoc]
        conv => rhs; unfold overL
        rw [if_neg hne]
        rfl
      · rw [Int.natAbs_tdiv]
        rw [Nat.pow_succ] at hok
        exact Nat.div_lt_of_lt_mul (by rw [Nat.mul_comm]; exact hok)
    · subst h0
      have hds2 : ds = overL 3 (carryO 0 xs) := by
        rw [← hds]
        cases k <;> simp [overL]
      have hlen : (carryL 0 xs ++ ds).length ≤ 1073741824 := by simp [hcl]; omega
      refine (trim_mine S h156 hlen hM').mono ?_
      rintro r1 _ ⟨rfl, hM1⟩
      rw [hds2] at hM1
      have hl1 := (trim_take (carryL 0 xs ++ overL 3 (carryO 0 xs))).2.2
      rw [hds2] at hlen
      have hsm : Sml (trimL (carryL 0 xs ++ overL 3 (carryO 0 xs))) := fun x hx => by
        rcases List.mem_append.1 (trim_mem _ x hx) with h | h
        · exact carry_small _ _ x h
        · exact overL_small _ _ x h
      refine (borrow_mine S h157 h183 (by omega) (by omega) hM1 hsm).mono ?_
      rintro _ H3 ⟨hM3, hn3⟩
      refine (trim_mine S h156 (by rw [borrow_length]; omega) hM3).mono ?_
      rintro r3 _ ⟨rfl, hM4⟩
      have hset := settle_digits ho3
      unfold settleL at hset
      simp only at hset
      have hfin : Mine H0 b0 r3 (digits (val xs)) H3 ∧ H3.n ≤ H.n + 6 := by
        refine ⟨?_, by omega⟩
        rw [← hset]
        exact hM4
      exact hfin
end Go.PI
open Go.Proofs
namespace Go.PI
open IM
theorem fn182 : ctx.fn 182 = some c182 := by kernel_rfl
theorem fn164 : ctx.fn 164 = some c164 := by kernel_rfl
theorem fn153 : ctx.fn 153 = some c153 := by kernel_rfl
def okE (t e : Int) : Bool := decide (-100000000 < e) && decide (e < 100000000) && (decide (0 ≤ e) || decide (t ≤ 0)) && (decide (e ≤ 0) || decide (0 ≤ t))
def nrmB (xs : List Int) : Bool :=
  match xs.getLast? with
  | none => true
  | some t => xs.all (okE t) && decide (t ≠ 0)
theorem Nrm.sml {xs : List Int} (h : Nrm xs) : Sml xs := fun x hx => by
  rcases h.side with h1 | h1 <;> have := h1 x hx <;> omega
set_option maxRecDepth 10000
set_option maxHeartbeats 1000000
variable (S : FuncId → Option (List AV → Heap → Option (AV × Heap)))
theorem isNormal_run (h182 : S 182 = none) {H : Heap} {v : AV} {xs : List Int} (hlb : xs.length ≤ 1073741824) (h : Sl H v xs) :
    Cl (ctx.plus S) 182 [v] H fun r H' => r = .bool (nrmB xs) ∧ H = H' := by
  refine cl_of h182 fn182 ?_
  have hT : (ctx.plus S).ty = tget := rfl
  refine ⟨_, len_sl hT (v := v) rfl h, ?_⟩
  refine ⟨fun h0 => ?_, fun h0 => ?_⟩
  · have : xs = [] := List.eq_nil_of_length_eq_zero (by omega)
    subst this
    exact ⟨rfl, rfl⟩
  · obtain ⟨t, ht⟩ : ∃ e, xs[xs.length - 1]? = some e := ⟨xs[xs.length - 1]'(by omega), List.getElem?_eq_getElem _⟩
    have hs : nrmB xs = (xs.all (okE t) && decide (t ≠ 0)) := by
      unfold nrmB
      rw [List.getLast?_eq_getElem?, ht]
    refine ⟨_, len_sl hT (v := v) rfl h, ?_⟩
    refine ⟨⟨by omega, by omega⟩, ?_⟩
    refine ⟨_, idx_sl hT (v := v) (n := (xs.length : Int) - 1) (k := xs.length - 1) rfl rfl h (by omega) (by omega), ?_⟩
    refine ⟨_, load_sl hT h ht, ?_⟩
    refine ⟨_, len_sl hT (v := v) rfl h, ?_⟩
    refine ⟨fun m s => ∃ (i : Nat) (n : Int) (j1 j2 j4 j5 j6 j7 j8 j9 j10 j11 j12 j13 j14 j18 j19 j20 j21 j22 j23 j24 j25 j26 j27 j28 j29 j30 j31 j32 j33 j34 j35 j36 j37 j38 j39 j40 j41 j42 j43 j44 j45 : AV),
      s = ⟨[v, j1, j2, iv t, j4, j5, j6, j7, j8, j9, j10, j11, j12, j13, j14, v, iv xs.length, iv n, j18, j19, j20, j21, j22, j23, j24, j25, j26, j27, j28, j29, j30, j31, j32, j33, j34, j35, j36, j37, j38, j39, j40, j41, j42, j43, j44, j45], H, []⟩ ∧ m = xs.length - i ∧ n = i ∧ i ≤ xs.length ∧ (∀ j e, j < i → xs[j]? = some e → okE t e = true), ⟨xs.length, ?_⟩, ?_⟩
    · exact ⟨0, _, _, _, _, _, _, _, _, _, _, _, _, _, _, _, _, _, _, _, _, _, _, _, _, _, _, _, _, _, _, _, _, _, _, _, _, _, _, _, _, _, _, rfl, rfl, rfl, Nat.zero_le _, fun j e h1 h2 => by omega⟩
    · rintro m s ⟨i, n, j1, j2, j4, j5, j6, j7, j8, j9, j10, j11, j12, j13, j14, j18, j19, j20, j21, j22, j23, j24, j25, j26, j27, j28, j29, j30, j31, j32, j33, j34, j35, j36, j37, j38, j39, j40, j41, j42, j43, j44, j45, rfl, hm, rfl, hi, hz⟩
      refine ⟨fun hlt => ?_, fun hge => ?_⟩
      · obtain ⟨e, he⟩ : ∃ e, xs[i]? = some e := ⟨xs[i]'(by omega), List.getElem?_eq_getElem _⟩
        have leafF : okE t e = false → nrmB xs = false := fun h1 => by
          rw [hs, Bool.and_eq_false_iff]
          exact .inl (List.all_eq_false.2 ⟨e, List.mem_of_getElem? he, by rw [h1]; simp⟩)
        have leafT : okE t e = true → (∀ j e, j < i + 1 → xs[j]? = some e → okE t e = true) := fun h1 j e' h2 h3 => by
          by_cases hj : j = i
          · subst hj; rw [he] at h3; cases h3; exact h1
          · exact hz j e' (by omega) h3
        refine ⟨_, idx_sl hT (v := v) (n := (i : Int)) (k := i) rfl rfl h rfl (by omega), ?_⟩
        refine ⟨_, load_sl hT h he, ?_⟩
        repeat' (first | refine ⟨fun _ => ?_, fun _ => ?_⟩ | fail)
        all_goals first
          | (have hF := leafF (by simp only [okE, Bool.and_eq_false_iff, Bool.or_eq_false_iff, decide_eq_false_iff_not]; omega)
             exact ⟨by rw [hF], rfl⟩)
          | (have hF := leafT (by simp only [okE, Bool.and_eq_true, Bool.or_eq_true, decide_eq_true_eq]; omega)
             refine ⟨⟨by omega, by omega⟩, ?_⟩
             exact ⟨xs.length - (i + 1), by omega, i + 1, _, _, _, _, _, _, _, _, _, _, _, _, _, _, _, _, _, _, _, _, _, _, _, _, _, _, _, _, _, _, _, _, _, _, _, _, _, _, _, _, _, _, rfl, rfl, rfl, by omega, hF⟩)
      · have hall : xs.all (okE t) = true := List.all_eq_true.2 fun e he => by
          obtain ⟨j, hj⟩ := List.getElem?_of_mem he
          exact hz j e (by have := (List.getElem?_eq_some_iff.1 hj).1; omega) hj
        rw [hall, Bool.true_and] at hs
        refine ⟨fun h1 => ?_, fun h1 => ?_⟩
        · exact ⟨by rw [hs, decide_eq_true h1], rfl⟩
        · exact ⟨by rw [hs, decide_eq_false (by simpa using h1)], rfl⟩
end Go.PI
/- NEW LISTS AS RESULTS. -/
open Go.Proofs
namespace Go.PI
open IM
theorem Mine.fresh_refl {H : Heap} {b : Nat} {zs : List Int} {v : AV} {l : Nat} {H1 : Heap} (hn : H.n ≤ H1.n) (hk : ∀ A, A < H.n → H1.get A = H.get A) (hO : Ow H1 v b zs l) (hb : H.n ≤ b) : Mine H H.n v (zs.take l) H1 := by
  have hl := hO.2.1
  have e : (zs.take l).length = l := by simp; omega
  refine ⟨hn, fun A hA _ => hk A hA, b, zs, ?_, ?_, .inr hb⟩
  · rw [e]; exact hO
  · rw [e]
end Go.PI
open Go.Proofs
namespace Go.PI
open IM
theorem fn152 : ctx.fn 152 = some c152 := by kernel_rfl
theorem fn193 : ctx.fn 193 = some c193 := by kernel_rfl
theorem fn78 : ctx.fn 78 = some c78 := by kernel_rfl
theorem fn187 : ctx.fn 187 = some c187 := by kernel_rfl
theorem lenE_sl {H : Heap} {v : AV} {xs : List Int} (h : Sl H v xs) : lenE v = some xs.length := by
  unfold Sl at h
  split at h
  · subst h; rfl
  · subst h; rfl
  · simp [lenE, h.1]
  · simp [lenE, h.2.1]
  · exact h.elim
theorem cellsE_sl {H : Heap} {v : AV} {xs : List Int} (h : Sl H v xs) {n : Nat} (hn : n ≤ xs.length) : cellsE H 1 n v = some (ints (xs.take n)) := by
  have key : ∀ {b o l : Nat}, l = xs.length → (∃ rw ty cs, H.get b = .cells rw ty cs ∧ o + l ≤ cs.length ∧ (cs.drop o).take l = ints xs) → (match H.get b with
      | .cells _ _ cs => if o + n * 1 ≤ cs.length then some ((cs.drop o).take (n * 1)) else none
      | _ => none) = some (ints (xs.take n)) := by
    rintro b o l rfl ⟨rw, ty, cs, h1, h2, h3⟩
    rw [h1]
    simp only [Nat.mul_one]
    rw [if_pos (by omega), ← ints_take, ← h3, List.take_take, Nat.min_eq_left hn]
  unfold Sl at h
  split at h
  · subst h; simp at hn; subst hn; rfl
  · subst h; simp at hn; subst hn; rfl
  · exact key h.1 h.2
  · exact key h.2.1 h.2.2
  · exact h.elim
theorem max_two {C : Ctx} {ρ : Operand → Option AV} {x y : Operand} {ts : Array TypeId} {m n : Nat} (hx : ρ x = some (iv m)) (hy : ρ y = some (iv n)) : pureE C ρ (.call { callee := .builtin .max, args := #[x, y], argTypes := ts }) = some (iv (max m n : Nat)) := by
  simp only [pureE, opds, hx, hy, builtinP, foldMinMax]
  simp
  by_cases h : m < n
  · rw [if_pos (by omega)]; omega
  · rw [if_neg (by omega)]; omega
def addL (f : Int) : List Int → List Int → List Int
  | z :: zs, y :: ys => (z + f * y) :: addL f zs ys
  | zs, [] => zs
  | [], _ => []
theorem addL_nil (f : Int) (zs : List Int) : addL f zs [] = zs := by cases zs <;> rfl
theorem addL_length (f : Int) : ∀ (zs ys : List Int), (addL f zs ys).length = zs.length
  | [], [] => rfl
  | [], _ :: _ => rfl
  | _ :: _, [] => rfl
  | z :: zs, y :: ys => by simp [addL, addL_length f zs ys]
theorem addL_val (f : Int) : ∀ (zs ys : List Int), ys.length ≤ zs.length → val (addL f zs ys) = val zs + f * val ys
  | zs, [], _ => by rw [addL_nil]; simp [val]
  | [], _ :: _, h => by simp at h
  | z :: zs, y :: ys, h => by
    simp only [addL, val]
    rw [addL_val f zs ys (by simpa using h)]
    rw [Int.mul_add, Int.mul_add, Int.mul_left_comm f]
    omega
theorem addL_get (f : Int) : ∀ (i : Nat) (zs ys : List Int) (z : Int), zs[i]? = some z → ys.length ≤ i → (addL f zs ys)[i]? = some z
  | _, zs, [], z, h, _ => by rw [addL_nil]; exact h
  | 0, zs, y :: ys, z, h, h2 => by simp at h2
  | i + 1, [], y :: ys, z, h, _ => by simp at h
  | i + 1, z' :: zs, y :: ys, z, h, h2 => by
    simp only [addL, List.getElem?_cons_succ] at *
    exact addL_get f i zs ys z h (by simpa using h2)
theorem addL_snoc (f : Int) : ∀ (ys zs : List Int) (y z : Int), zs[ys.length]? = some z → addL f zs (ys ++ [y]) = (addL f zs ys).set ys.length (z + f * y)
  | [], z' :: zs, y, z, h => by
    simp at h; subst h
    simp [addL, addL_nil]
  | [], [], y, z, h => by simp at h
  | y' :: ys, [], y, z, h => by simp at h
  | y' :: ys, z' :: zs, y, z, h => by
    simp only [List.cons_append, addL, List.length_cons, List.set_cons_succ]
    rw [addL_snoc f ys zs y z (by simpa using h)]
theorem mul_bd {a b : Int} {m n : Int} (ha : -m ≤ a ∧ a ≤ m) (hb : -n ≤ b ∧ b ≤ n) : -(m * n) ≤ a * b ∧ a * b ≤ m * n := by
  have hm : 0 ≤ m := by omega
  have hn : 0 ≤ n := by omega
  have h1 : (a * b).natAbs ≤ (m * n).natAbs := by
    rw [Int.natAbs_mul, Int.natAbs_mul]
    exact Nat.mul_le_mul (by omega) (by omega)
  have h2 : 0 ≤ m * n := Int.mul_nonneg hm hn
  omega
set_option maxRecDepth 10000
set_option maxHeartbeats 1000000
variable (S : FuncId → Option (List AV → Heap → Option (AV × Heap)))
structure Old (S : FuncId → Option (List AV → Heap → Option (AV × Heap))) : Prop where
  h119 : S 119 = none
  h155 : S 155 = none
  h156 : S 156 = none
  h157 : S 157 = none
  h183 : S 183 = none
theorem settle_old (hS : Old S) {H : Heap} {b0 : Nat} {H0 : Heap} {v : AV} {xs : List Int} (hn : H.n + 8 < lim) (hlb : xs.length ≤ 1000000000) (h : Mine H0 b0 v xs H) (hr : ∀ x ∈ xs, In64 x) :
    Cl (ctx.plus S) 119 [v] H fun r H' => Mine H0 b0 r (digits (val xs)) H' ∧ H'.n ≤ H.n + 6 := settle_run S hS.h119 hS.h155 hS.h156 hS.h157 hS.h183 hn hlb h hr
theorem of_run2 (hS : Old S) (h78 : S 78 = none) {H : Heap} {n : Int} (hn : H.n + 12 < lim) (h : In64 n) : Cl (ctx.plus S) 78 [iv n] H fun r H' => Mine H H.n r (digits n) H' ∧ H'.n ≤ H.n + 8 := by
  refine cl_of h78 fn78 ?_
  refine ⟨by omega, _, _, rfl, ?_⟩
  have hp := Heap.get_push (H := H) (b := .cells true 3 [iv n]) (by omega)
  have hpn : (H.push (.cells true 3 [iv n])).n = H.n + 1 := rfl
  have hM : Mine H H.n (.sl H.n 0 1 1) [n] (H.push (.cells true 3 [iv n])) :=
    ⟨by omega, fun A hA _ => by rw [hp, if_neg (by omega)], H.n, [n], ⟨by rw [hp, if_pos rfl]; rfl, by simp, .inl ⟨1, rfl, by simp, by simp⟩⟩, by simp, .inl rfl⟩
  refine (settle_old S hS (by omega) (by simp) hM (fun x hx => by simp at hx; subst hx; exact h)).mono ?_
  rintro r H' ⟨h1, h2⟩
  have hv : val [n] = n := by simp [val]
  rw [hv] at h1
  exact ⟨h1, by omega⟩
theorem copy_new {C : Ctx} (hT : C.ty = tget) {H : Heap} {v : AV} {xs : List Int} {b n c : Nat} {zs : List Int} (h : Sl H v xs) (hb : H.get b = .cells true 3 (ints zs)) (hl : xs.length ≤ n) (hn : n ≤ zs.length) :
    copyE C [22, 22] (.sl b 0 n c) v H = some (iv xs.length, H.set b (.cells true 3 (ints (xs ++ zs.drop xs.length)))) := by
  have hmin : Nat.min xs.length n = xs.length := Nat.min_eq_left hl
  have hd : lenE (.sl b 0 n c) = some n := rfl
  simp only [copyE, ty22 hT, t22, ty3 hT, t3, hd, lenE_sl h, hmin, cellsE_sl h (Nat.le_refl _), hb, List.take_length, ones_ints]
  rw [if_pos ⟨by rw [ints_length, ints_length]; omega, trivial⟩]
  have : splice (ints zs) 0 (ints xs) = ints (xs ++ zs.drop xs.length) := by
    unfold splice
    rw [List.take_zero, List.nil_append, Nat.zero_add, ints_length, ints_drop, ints_append]
  rw [this]
theorem plus_run2 (hS : Old S) (h152 : S 152 = none) {H : Heap} {x y : AV} {f : Int} {xs ys : List Int} (hn : H.n + 20 < lim) (hx : Sl H x xs) (hy : Sl H y ys) (hxl : xs.length ≤ 1000000) (hyl : ys.length ≤ 1000000)
    (hxs : Sml xs) (hys : Sml ys) (hf : -100000000 ≤ f ∧ f ≤ 100000000) : Cl (ctx.plus S) 152 [x, iv f, y] H fun r H' => Mine H H.n r (digits (val xs + f * val ys)) H' ∧ H'.n ≤ H.n + 8 := by
  refine cl_of h152 fn152 ?_
  have hT : (ctx.plus S).ty = tget := rfl
  obtain ⟨N, hN⟩ : ∃ N, N = max xs.length ys.length := ⟨_, rfl⟩
  refine ⟨_, len_sl hT (v := x) rfl hx, ?_⟩
  refine ⟨_, len_sl hT (v := y) rfl hy, ?_⟩
  refine ⟨_, max_two (m := xs.length) (n := ys.length) rfl rfl, ?_⟩
  rw [← hN]
  refine ⟨⟨by omega, by omega⟩, ?_⟩
  refine ⟨by omega, ⟨by omega, by omega, by omega⟩, ?_⟩
  rw [show ((N : Int)).toNat = N by omega, show ((N : Int) + 1).toNat = N + 1 by omega, show (List.replicate (N + 1) t3.zero.cells).flatten = ints (List.replicate (N + 1) 0) from ints_zeros _]
  have hp := Heap.get_push (H := H) (b := .cells true 3 (ints (List.replicate (N + 1) 0))) (by omega)
  have hpn : (H.push (.cells true 3 (ints (List.replicate (N + 1) 0)))).n = H.n + 1 := rfl
  generalize H.push (.cells true 3 (ints (List.replicate (N + 1) 0))) = H1 at hp hpn ⊢
  have hk1 : ∀ A, A < H.n → H1.get A = H.get A := fun A hA => by rw [hp, if_neg (by omega)]
  have hb1 : H1.get H.n = .cells true 3 (ints (List.replicate (N + 1) 0)) := by rw [hp, if_pos rfl]
  refine ⟨_, _, copy_new hT (hx.mono hk1) hb1 (by omega) (by simp), ?_⟩
  have hU : Upd H1 H.n (.cells true 3 (ints (xs ++ (List.replicate (N + 1) 0).drop xs.length))) (H1.set H.n (.cells true 3 (ints (xs ++ (List.replicate (N + 1) 0).drop xs.length)))) := upd_set (by omega) (by omega)
  generalize H1.set H.n _ = H2 at hU ⊢
  have hzs : xs ++ (List.replicate (N + 1) (0 : Int)).drop xs.length = xs ++ List.replicate (N + 1 - xs.length) 0 := by simp
  rw [hzs] at hU
  obtain ⟨Z, hZ⟩ : ∃ Z, Z = xs ++ List.replicate (N + 1 - xs.length) (0 : Int) := ⟨_, rfl⟩
  have hZl : Z.length = N + 1 := by rw [hZ]; simp; omega
  have hZs : Sml Z := by
    rw [hZ]
    intro z hz
    rcases List.mem_append.1 hz with h | h
    · exact hxs z h
    · have := (List.mem_replicate.1 h).2; omega
  have hZv : val Z = val xs := by rw [hZ, val_append, val_zeros]; simp
  have hZt : ∀ ys', ys'.length ≤ N → val ((addL f Z ys').take N) = val Z + f * val ys' := fun ys' hl => by
    have h1 : addL f Z ys' = (addL f Z ys').take N ++ [0] := by
      have hlen := addL_length f Z ys'
      have hg : (addL f Z ys')[N]? = some 0 := addL_get f N Z ys' 0 (by rw [hZ, List.getElem?_append_right (by omega), List.getElem?_replicate, if_pos (by omega)]) hl
      rw [← take_snoc hg, List.take_of_length_le (by omega)]
    rw [← addL_val f Z ys' (by omega)]
    conv => rhs; rw [h1, val_append]
    simp [val]
  rw [← hZ] at hU
  clear hZ hzs hb1
  refine ⟨_, len_sl hT (v := y) rfl hy, ?_⟩
  have hk2 : ∀ A, A < H.n → H2.get A = H.get A := fun A hA => by rw [hU.other A (by omega)]; exact hk1 A hA
  have hn2 : H2.n = H.n + 1 := by rw [hU.n]; exact hpn
  refine ⟨fun m s => ∃ (i : Nat) (n : Int) (H' : Heap) (j3 j4 j5 j6 j7 j9 j10 j11 j12 j13 j14 j15 j16 j17 j18 j19 j20 j21 j22 j26 j27 j28 j29 j30 j31 j32 j33 j34 j35 j36 j37 j38 j39 j40 j41 : AV),
    s = ⟨[x, iv f, y, j3, j4, j5, j6, j7, .sl H.n 0 N (N + 1), j9, j10, j11, j12, j13, j14, j15, j16, j17, j18, j19, j20, j21, j22, y, iv ys.length, iv n, j26, j27, j28, j29, j30, j31, j32, j33, j34, j35, j36, j37, j38, j39, j40, j41], H', []⟩ ∧ m = ys.length - i ∧ n = i ∧ i ≤ ys.length ∧ Upd H2 H.n (.cells true 3 (ints (addL f Z (ys.take i)))) H', ⟨ys.length, ?_⟩, ?_⟩
  · exact ⟨0, _, H2, _, _, _, _, _, _, _, _, _, _, _, _, _, _, _, _, _, _, _, _, _, _, _, _, _, _, _, _, _, _, _, _, _, _, _, rfl, rfl, rfl, Nat.zero_le _, Upd.refl (by rw [List.take_zero, addL_nil]; exact hU.at_)⟩
  · rintro m s ⟨i, n, H', j3, j4, j5, j6, j7, j9, j10, j11, j12, j13, j14, j15, j16, j17, j18, j19, j20, j21, j22, j26, j27, j28, j29, j30, j31, j32, j33, j34, j35, j36, j37, j38, j39, j40, j41, rfl, hm, rfl, hi, hV⟩
    have hk : ∀ A, A < H.n → H'.get A = H.get A := fun A hA => by rw [hV.other A (by omega)]; exact hk2 A hA
    have hn' : H'.n = H.n + 1 := by rw [hV.n]; exact hn2
    have hOw : Ow H' (.sl H.n 0 N (N + 1)) H.n (addL f Z (ys.take i)) N := ⟨hV.at_, by rw [addL_length]; omega, .inl ⟨N + 1, rfl, by omega, by rw [addL_length]; omega⟩⟩
    refine ⟨fun hlt => ?_, fun hge => ?_⟩
    · obtain ⟨e, he⟩ : ∃ e, ys[i]? = some e := ⟨ys[i]'(by omega), List.getElem?_eq_getElem _⟩
      obtain ⟨z, hz⟩ : ∃ z, Z[i]? = some z := ⟨Z[i]'(by omega), List.getElem?_eq_getElem _⟩
      have heB := hys e (List.mem_of_getElem? he)
      have hzB := hZs z (List.mem_of_getElem? hz)
      have hfe := mul_bd (a := f) (b := e) (m := 100000000) (n := 100000000) (by omega) (by omega)
      have hgz : (addL f Z (ys.take i))[i]? = some z := addL_get f i Z (ys.take i) z hz (by simp; omega)
      refine ⟨_, idx_sl hT (v := y) (n := i) rfl rfl (hy.mono hk) rfl (by omega), ?_⟩
      refine ⟨_, load_sl hT (hy.mono hk) he, ?_⟩
      have htl : ((addL f Z (ys.take i)).take N).length = N := by simp [addL_length]; omega
      refine ⟨_, idx_sl hT (v := .sl H.n 0 N (N + 1)) (n := i) rfl rfl hOw.sl rfl (by omega), ?_⟩
      refine ⟨_, load_sl hT hOw.sl (x := z) (by rw [List.getElem?_take, if_pos (by omega)]; exact hgz), ?_⟩
      refine ⟨⟨by omega, by omega⟩, ?_⟩
      refine ⟨⟨by omega, by omega⟩, ?_⟩
      refine ⟨_, idx_sl hT (v := .sl H.n 0 N (N + 1)) (n := i) rfl rfl hOw.sl rfl (by omega), ?_⟩
      refine ⟨_, store_ow hT hOw (by omega), ?_⟩
      refine ⟨⟨by omega, by omega⟩, ?_⟩
      refine ⟨ys.length - (i + 1), by omega, i + 1, _, _, _, _, _, _, _, _, _, _, _, _, _, _, _, _, _, _, _, _, _, _, _, _, _, _, _, _, _, _, _, _, _, _, _, _, _, rfl, rfl, rfl, by omega, ?_⟩
      rw [take_snoc he, addL_snoc f (ys.take i) Z e z (by rw [List.length_take, Nat.min_eq_left (by omega)]; exact hz), List.length_take, Nat.min_eq_left (by omega)]
      exact hV.trans (upd_set (by omega) (by omega))
    · have hiy : i = ys.length := by omega
      subst hiy
      rw [List.take_length] at hV hOw
      have hM : Mine H H.n (.sl H.n 0 N (N + 1)) ((addL f Z ys).take N) H' := Mine.fresh_refl (by omega) hk hOw (Nat.le_refl _)
      refine (settle_old S hS (by omega) (by simp [addL_length]; omega) hM ?_).mono ?_
      · have key : ∀ (zs us : List Int), Sml zs → Sml us → ∀ w ∈ addL f zs us, -10000000100000000 ≤ w ∧ w ≤ 10000000100000000 := by
          intro zs
          induction zs with
          | nil => intro us _ _ w hw; cases us <;> cases hw
          | cons z zs ih =>
            intro us hz hu w hw
            cases us with
            | nil =>
              rw [addL_nil] at hw
              have := hz w hw
              omega
            | cons u us =>
              simp only [addL, List.mem_cons] at hw
              rcases hw with rfl | hw
              · have h1 := hz z (by simp)
                have h2 := hu u (by simp)
                have := mul_bd (a := f) (b := u) (m := 100000000) (n := 100000000) (by omega) (by omega)
                omega
              · exact ih us (fun a ha => hz a (by simp [ha])) (fun a ha => hu a (by simp [ha])) w hw
        intro w hw
        have := key Z ys hZs hys w (List.mem_of_mem_take hw)
        exact ⟨by omega, by omega⟩
      · rintro r H3 ⟨h1, h2⟩
        rw [hZt ys (by omega), hZv] at h1
        have h3 : Mine H H.n r (digits (val xs + f * val ys)) H3 ∧ H3.n ≤ H.n + 8 := ⟨h1, by omega⟩
        exact h3
end Go.PI
