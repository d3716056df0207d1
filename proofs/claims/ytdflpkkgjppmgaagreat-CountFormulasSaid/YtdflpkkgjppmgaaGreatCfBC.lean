/- Own work of the verifier: CiDigit. -/
import Derived.Test.YtdflpkkgjppmgaaGreatCfBB
set_option linter.all false
set_option exponentiation.threshold 3000
set_option linter.deprecated false
/- digit. -/
open Go.Proofs
namespace Go.PI
open IM
set_option maxRecDepth 10000
set_option maxHeartbeats 2000000
variable (S : FuncId → Option (List AV → Heap → Option (AV × Heap)))
theorem Sl.addr {H : Heap} {v : AV} {xs : List Int} (h : Sl H v xs) (hne : xs ≠ []) : ∃ b o, b < H.n ∧ ∀ k, addr v k = .ptr b (o + k) := by
  unfold Sl at h
  split at h
  · exact absurd h hne
  · exact absurd h hne
  · obtain ⟨h1, rw, ty, cs, h2, h3⟩ := h
    exact ⟨_, _, Heap.lt_of_get (by rw [h2]; simp), fun k => rfl⟩
  · obtain ⟨h0, h1, rw, ty, cs, h2, h3⟩ := h
    exact ⟨_, _, Heap.lt_of_get (by rw [h2]; simp), fun k => rfl⟩
  · exact h.elim
theorem top_zero {L : List Int} {n : Nat} {t w : Int} (hL : L.length = n) (dL : Dig L) (h : val L + pw n * t = w) (h0 : 0 ≤ w) (h1 : w < pw n) : t = 0 ∧ val L = w := by
  have hv := dL.val
  rw [hL] at hv
  have hp := pw_pos n
  have ht : t = 0 := by
    rcases ilt_or t 0 with h2 | h2
    · have := Int.mul_le_mul_of_nonneg_left (show t ≤ -1 by omega) (show 0 ≤ pw n by omega)
      omega
    · rcases ilt_or 0 t with h3 | h3
      · have := Int.mul_le_mul_of_nonneg_left (show 1 ≤ t by omega) (show 0 ≤ pw n by omega)
        omega
      · omega
  subst ht
  exact ⟨rfl, by omega⟩
theorem top_neg {L : List Int} {n : Nat} {t w : Int} (hL : L.length = n) (dL : Dig L) (h : val L + pw n * t = w) (h0 : -pw n < w) (h1 : w < 0) : t = -1 := by
  have hv := dL.val
  rw [hL] at hv
  have hp := pw_pos n
  rcases ilt_or t (-1) with h2 | h2
  · have := Int.mul_le_mul_of_nonneg_left (show t ≤ -2 by omega) (show 0 ≤ pw n by omega)
    omega
  · rcases ilt_or (-1) t with h3 | h3
    · have := Int.mul_le_mul_of_nonneg_left (show 0 ≤ t by omega) (show 0 ≤ pw n by omega)
      omega
    · omega
theorem digit_run (h211 : S 211 = none) (h208 : S 208 = none) {H : Heap} {v : AV} {b o c : Nat} {A Z lo lv : List Int} {u0 u1 u2 v1 v2 : Int} (hn : H.n < lim) (hb : b < H.n) (hA : A.length = o) (hl : lo.length = lv.length) (hnl : lv.length ≤ 999990)
    (hB : H.get b = .cells true 3 (ints (A ++ ((lo ++ [u2, u1]) ++ u0 :: Z)))) (hv : Sl H v (lv ++ [v2, v1])) (hvb : nb v b) (dU : Dig (lo ++ [u2, u1])) (d0 : 0 ≤ u0 ∧ u0 < 100000000) (dv : Dig (lv ++ [v2, v1])) (hv1 : 50000000 ≤ v1)
    (hlt : val ((lo ++ [u2, u1]) ++ [u0]) < 100000000 * val (lv ++ [v2, v1])) :
    Cl (ctx.plus S) 208 [.sl b o (lv.length + 3) c, v] H fun r H' => ∃ L q, r = iv q ∧ 0 ≤ q ∧ q < 100000000 ∧ L.length = lv.length + 2 ∧ Dig L ∧ val L < val (lv ++ [v2, v1]) ∧ val ((lo ++ [u2, u1]) ++ [u0]) = q * val (lv ++ [v2, v1]) + val L ∧ Upd H b (.cells true 3 (ints (A ++ (L ++ 0 :: Z)))) H' := by
  refine cl_of h208 fn208 ?_
  have hT : (ctx.plus S).ty = tget := rfl
  have hU2 : (lo ++ [u2, u1]).length = lv.length + 2 := by simp [hl]
  have hV2 : (lv ++ [v2, v1]).length = lv.length + 2 := by simp
  have dlo : Dig lo := fun x hx => dU x (by simp [hx])
  have dlv : Dig lv := fun x hx => dv x (by simp [hx])
  have du2 := dU u2 (by simp)
  have du1 := dU u1 (by simp)
  have dv2 := dv v2 (by simp)
  have dv1 := dv v1 (by simp)
  have hvU : val ((lo ++ [u2, u1]) ++ [u0]) = val lo + pw lv.length * (u2 + 100000000 * (u1 + 100000000 * u0)) := by
    rw [List.append_assoc, val_append, hl]; simp [val]
  have hvV : val (lv ++ [v2, v1]) = val lv + pw lv.length * (v2 + 100000000 * v1) := by
    rw [val_append]; simp [val]
  have hlo := dlo.val
  rw [hl] at hlo
  have D : Dgt (pw lv.length) (val lo) (val lv) u0 u1 u2 v1 v2 := ⟨pw_pos _, hlo, dlv.val, d0, du1, du2, ⟨hv1, dv1.2⟩, dv2, by rw [← hvU, ← hvV]; exact hlt⟩
  have gu0 : (A ++ ((lo ++ [u2, u1]) ++ u0 :: Z))[o + (lv.length + 2)]? = some u0 := by
    rw [List.getElem?_append_right (by omega), List.getElem?_append_right (by simp; omega)]
    simp [hA, hl]
  have gu1 : (A ++ ((lo ++ [u2, u1]) ++ u0 :: Z))[o + (lv.length + 1)]? = some u1 := by
    rw [List.getElem?_append_right (by omega), List.getElem?_append_left (by simp; omega), List.getElem?_append_right (by omega)]
    simp [hA, hl]
  have gu2 : (A ++ ((lo ++ [u2, u1]) ++ u0 :: Z))[o + lv.length]? = some u2 := by
    rw [List.getElem?_append_right (by omega), List.getElem?_append_left (by simp; omega), List.getElem?_append_right (by omega)]
    simp [hA, hl]
  have gv1 : (lv ++ [v2, v1])[lv.length + 1]? = some v1 := by rw [List.getElem?_append_right (by omega)]; simp
  have gv2 : (lv ++ [v2, v1])[lv.length]? = some v2 := by rw [List.getElem?_append_right (by omega)]; simp
  refine ⟨_, len_sl hT (v := v) rfl hv, ?_⟩
  rw [hV2]
  have si : ∀ n : Int, (iv n).same (iv n) = true := fun n => by simp [AV.same, AV.sames]
  refine ⟨_, idx_off hT (b := b) (o := o) (l := lv.length + 3) (c := c) (n := ((lv.length + 2 : Nat) : Int)) (k := lv.length + 2) rfl rfl rfl (by omega), ?_⟩
  refine ⟨_, load_off hT hB gu0, ?_⟩
  refine ⟨⟨by omega, by omega⟩, ?_⟩
  refine ⟨⟨by omega, by omega⟩, ?_⟩
  refine ⟨_, idx_off hT (b := b) (o := o) (l := lv.length + 3) (c := c) (n := ((lv.length + 2 : Nat) : Int) - 1) (k := lv.length + 1) rfl rfl (by omega) (by omega), ?_⟩
  refine ⟨_, load_off hT hB gu1, ?_⟩
  refine ⟨⟨by omega, by omega⟩, ?_⟩
  refine ⟨draw_of2 H 12 (by kernel_rfl) rfl ?_ ?_ ?_, ?_⟩
  · exact ⟨trivial, trivial, trivial, ⟨_, _, _, rfl, hb, load_off hT hB gu0, si _⟩, trivial, trivial, trivial, trivial, trivial, ⟨_, _, _, rfl, hb, load_off hT hB gu1, si _⟩, trivial, trivial, trivial⟩
  · repeat' (first | exact trivial | refine ⟨fun _ _ => rfl, ?_⟩)
  · repeat' (first | exact trivial | refine ⟨Nat.le_refl _, ?_⟩)
  obtain ⟨bv, ov, hbv, hav⟩ := hv.addr (by simp)
  have hvs : val ((lo ++ [u2, u1]) ++ [u0]) = val (lo ++ [u2, u1]) + pw (lv.length + 2) * u0 := by rw [val_snoc, hU2]
  have hVb := dv.val
  rw [hV2] at hVb
  have fin1 : ∀ (g t : Int) (L : List Int) (H1 : Heap), g < 100000000 → 0 ≤ g → L.length = lv.length + 2 → Dig L → val L + pw (lv.length + 2) * t = val (lo ++ [u2, u1]) + pw (lv.length + 2) * u0 - g * val (lv ++ [v2, v1]) → 0 ≤ t → val ((lo ++ [u2, u1]) ++ [u0]) < (g + 1) * val (lv ++ [v2, v1]) →
      Upd H b (.cells true 3 (ints (A ++ (L ++ t :: Z)))) H1 → ∃ L q, iv g = iv q ∧ 0 ≤ q ∧ q < 100000000 ∧ L.length = lv.length + 2 ∧ Dig L ∧ val L < val (lv ++ [v2, v1]) ∧ val ((lo ++ [u2, u1]) ++ [u0]) = q * val (lv ++ [v2, v1]) + val L ∧ Upd H b (.cells true 3 (ints (A ++ (L ++ 0 :: Z)))) H1 := by
    intro g t L H1 h1 h2 hL dL hval ht hub hU
    have hLv := dL.val
    have hp := Int.mul_nonneg (show 0 ≤ pw (lv.length + 2) by have := pw_pos (lv.length + 2); omega) ht
    rw [Int.add_mul, Int.one_mul] at hub
    obtain ⟨e1, e2⟩ := top_zero hL dL hval (by omega) (by omega)
    subst e1
    exact ⟨L, g, rfl, h2, h1, hL, dL, by omega, by omega, hU⟩
  have fin2 : ∀ (g t t' : Int) (L L' : List Int) (H1 H2 : Heap), g < 100000000 → L.length = lv.length + 2 → Dig L → val L + pw (lv.length + 2) * t = val (lo ++ [u2, u1]) + pw (lv.length + 2) * u0 - g * val (lv ++ [v2, v1]) → t < 0 → g * val (lv ++ [v2, v1]) ≤ val ((lo ++ [u2, u1]) ++ [u0]) + val (lv ++ [v2, v1]) →
      L'.length = lv.length + 2 → Dig L' → val L' + pw (lv.length + 2) * t' = val L + pw (lv.length + 2) * t - -1 * val (lv ++ [v2, v1]) → 0 ≤ val ((lo ++ [u2, u1]) ++ [u0]) → 0 ≤ g →
      Upd H b (.cells true 3 (ints (A ++ (L ++ t :: Z)))) H1 → Upd H1 b (.cells true 3 (ints (A ++ (L' ++ t' :: Z)))) H2 → ∃ L q, iv (g - 1) = iv q ∧ 0 ≤ q ∧ q < 100000000 ∧ L.length = lv.length + 2 ∧ Dig L ∧ val L < val (lv ++ [v2, v1]) ∧ val ((lo ++ [u2, u1]) ++ [u0]) = q * val (lv ++ [v2, v1]) + val L ∧ Upd H b (.cells true 3 (ints (A ++ (L ++ 0 :: Z)))) H2 := by
    intro g t t' L L' H1 H2 h1 hL dL hval ht hkeep hL' dL' hval' h0 hg0 hU hU'
    have hLv := dL.val
    rw [hL] at hLv
    have hp := Int.mul_le_mul_of_nonneg_left (show t ≤ -1 by omega) (show 0 ≤ pw (lv.length + 2) by have := pw_pos (lv.length + 2); omega)
    have hg1 : 1 ≤ g := by
      rcases ilt_or g 1 with h | h
      · exfalso
        have : g = 0 := by omega
        subst this
        omega
      · exact h
    obtain ⟨e1, e2⟩ := top_zero hL' dL' hval' (by omega) (by omega)
    subst e1
    refine ⟨L', g - 1, rfl, by omega, by omega, hL', dL', by omega, ?_, hU.trans hU'⟩
    rw [Int.sub_mul]; omega
  have h0U : 0 ≤ val ((lo ++ [u2, u1]) ++ [u0]) := (Dig.val (xs := (lo ++ [u2, u1]) ++ [u0]) (fun x hx => by
    rcases List.mem_append.1 hx with h | h
    · exact dU x h
    · have : x = u0 := by simpa using h
      subst this; exact d0)).1
  have lv1 : loadE (ctx.plus S) 3 (addr v (lv.length + 1)) H = some (iv v1) := load_sl hT hv gv1
  have lv2 : loadE (ctx.plus S) 3 (addr v lv.length) H = some (iv v2) := load_sl hT hv gv2
  have lv1' : loadE (ctx.plus S) 3 (.ptr bv (ov + (lv.length + 1))) H = some (iv v1) := by rw [← hav]; exact lv1
  have lv2' : loadE (ctx.plus S) 3 (.ptr bv (ov + lv.length)) H = some (iv v2) := by rw [← hav]; exact lv2
  obtain ⟨top, htop⟩ : ∃ top, u0 * 100000000 + u1 = top := ⟨_, rfl⟩
  obtain ⟨q1, q2, q3, q4, q5, q6⟩ := qr (m := u0 * 100000000 + u1) (d := v1) (by omega) (by omega)
  rw [← q1] at q6 q3
  rw [← q2] at q3 q4 q5
  have hst := D.start (g := (u0 * 100000000 + u1).tdiv v1) (r := (u0 * 100000000 + u1).tmod v1) (by rw [Int.mul_comm]; exact q3) ⟨q4, q5⟩
  have iv1 : ∀ {ρ : Operand → Option AV} {x i : Operand}, ρ x = some v → ρ i = some (iv (((lv.length + 2 : Nat) : Int) - 1)) → pureE (ctx.plus S) ρ (.indexAddr 22 x i) = some (addr v (lv.length + 1)) := fun h1 h2 => idx_sl hT (n := ((lv.length + 2 : Nat) : Int) - 1) h1 h2 hv (by omega) (by simp)
  have iv2 : ∀ {ρ : Operand → Option AV} {x i : Operand}, ρ x = some v → ρ i = some (iv (((lv.length + 2 : Nat) : Int) - 2)) → pureE (ctx.plus S) ρ (.indexAddr 22 x i) = some (addr v lv.length) := fun h1 h2 => idx_sl hT (n := ((lv.length + 2 : Nat) : Int) - 2) h1 h2 hv (by omega) (by simp)
  refine ⟨⟨by omega, by omega⟩, ?_⟩
  refine ⟨_, iv1 rfl rfl, ?_⟩
  refine ⟨_, lv1, ?_⟩
  refine ⟨⟨by omega, by unfold In64; omega⟩, ?_⟩
  refine ⟨⟨by omega, by omega⟩, ?_⟩
  refine ⟨_, iv1 rfl rfl, ?_⟩
  refine ⟨_, lv1, ?_⟩
  refine ⟨by omega, ?_⟩
  refine ⟨draw_of2 H 16 (by kernel_rfl) rfl ?_ ?_ ?_, ?_⟩
  · exact ⟨trivial, trivial, trivial, trivial, trivial, ⟨_, _, _, congrArg some (hav _), hbv, lv1', si _⟩, trivial, trivial, trivial, trivial, trivial, trivial, ⟨_, _, _, congrArg some (hav _), hbv, lv1', si _⟩, trivial, trivial, trivial, trivial⟩
  · repeat' (first | exact trivial | refine ⟨fun _ _ => rfl, ?_⟩)
  · repeat' (first | exact trivial | refine ⟨Nat.le_refl _, ?_⟩)
  refine ⟨fun m s => ∃ (g r : Int) (j2 j3 j4 j9 j10 j11 j12 j13 j14 j15 j16 j17 j18 j19 j20 j21 j22 j23 j24 j25 j26 j27 j28 j29 j30 j31 j32 j33 j34 j35 j36 j37 j38 j39 j40 j41 j42 j43 j44 j45 j46 j47 j48 j49 j50 j51 j52 j53 j54 j55 j56 j57 j58 j59 j60 j61 j62 j63 j64 j65 j66 j67 j68 j69 j70 j71 j72 j73 j74 j75 j76 j77 j78 j79 : AV),
    s = ⟨[.sl b o (lv.length + 3) c, v, j2, j3, j4, iv ((lv.length + 2 : Nat) : Int), iv (u0 * 100000000 + u1), iv g, iv r, j9, j10, j11, j12, j13, j14, j15, j16, j17, j18, j19, j20, j21, j22, j23, j24, j25, j26, j27, j28, j29, j30, j31, j32, j33, j34, j35, j36, j37, j38, j39, j40, j41, j42, j43, j44, j45, j46, j47, j48, j49, j50, j51, j52, j53, j54, j55, j56, j57, j58, j59, j60, j61, j62, j63, j64, j65, j66, j67, j68, j69, j70, j71, j72, j73, j74, j75, j76, j77, j78, j79], H, []⟩ ∧ m = g.toNat ∧ g * v1 + r = u0 * 100000000 + u1 ∧ 0 ≤ r ∧ r ≤ 200000000 ∧ 0 ≤ g ∧ g ≤ 100000001 ∧
      val lo + pw lv.length * (u2 + 100000000 * (u1 + 100000000 * u0)) < (g + 1) * (val lv + pw lv.length * (v2 + 100000000 * v1)), ⟨((u0 * 100000000 + u1).tdiv v1).toNat, ?_⟩, ?_⟩
  · exact ⟨_, _, _, _, _, _, _, _, _, _, _, _, _, _, _, _, _, _, _, _, _, _, _, _, _, _, _, _, _, _, _, _, _, _, _, _, _, _, _, _, _, _, _, _, _, _, _, _, _, _, _, _, _, _, _, _, _, _, _, _, _, _, _, _, _, _, _, _, _, _, _, _, _, _, _, _, rfl, rfl, by rw [Int.mul_comm]; exact q3, q4, by omega, hst.2.1, hst.2.2, hst.1⟩
  · rintro m s ⟨g, r, j2, j3, j4, j9, j10, j11, j12, j13, j14, j15, j16, j17, j18, j19, j20, j21, j22, j23, j24, j25, j26, j27, j28, j29, j30, j31, j32, j33, j34, j35, j36, j37, j38, j39, j40, j41, j42, j43, j44, j45, j46, j47, j48, j49, j50, j51, j52, j53, j54, j55, j56, j57, j58, j59, j60, j61, j62, j63, j64, j65, j66, j67, j68, j69, j70, j71, j72, j73, j74, j75, j76, j77, j78, j79, rfl, hm, hgr, hr0, hr2, hg0, hgB, hub⟩
    have body : r < 100000000 → (100000000 ≤ g ∨ r * 100000000 + u2 < g * v2) → (g - 1) * v1 + (r + v1) = u0 * 100000000 + u1 ∧ 1 ≤ g ∧ val lo + pw lv.length * (u2 + 100000000 * (u1 + 100000000 * u0)) < (g - 1 + 1) * (val lv + pw lv.length * (v2 + 100000000 * v1)) := fun hr hc => by
      obtain ⟨d1, d2⟩ := D.down hgr hr0 hg0 hc
      refine ⟨by rw [Int.sub_mul]; omega, d2, ?_⟩
      rw [Int.sub_add_cancel]; exact d1
    refine ⟨fun hrB => ?_, fun hrB => ?_⟩
    · refine ⟨fun hgB2 => ?_, fun hgB2 => ?_⟩
      · refine ⟨draw_of2 H 24 (by kernel_rfl) rfl ?_ ?_ ?_, ?_⟩
        · repeat' (first | exact trivial | refine ⟨trivial, ?_⟩)
        · repeat' (first | exact trivial | refine ⟨fun _ _ => rfl, ?_⟩)
        · repeat' (first | exact trivial | refine ⟨Nat.le_refl _, ?_⟩)
        obtain ⟨k1, k2, k3⟩ := body hrB (.inl hgB2)
        refine ⟨⟨by omega, by omega⟩, ?_⟩
        refine ⟨⟨by omega, by omega⟩, ?_⟩
        refine ⟨_, iv1 rfl rfl, ?_⟩
        refine ⟨_, lv1, ?_⟩
        refine ⟨⟨by omega, by omega⟩, ?_⟩
        exact ⟨(g - 1).toNat, by omega, g - 1, r + v1, _, _, _, _, _, _, _, _, _, _, _, _, _, _, _, _, _, _, _, _, _, _, _, _, _, _, _, _, _, _, _, _, _, _, _, _, _, _, _, _, _, _, _, _, _, _, _, _, _, _, _, _, _, _, _, _, _, _, _, _, _, _, _, _, _, _, _, _, _, _, _, _, _, _, rfl, rfl, k1, by omega, by omega, by omega, by omega, k3⟩
      · have hp : g * v2 ≤ 99999999 * v2 := Int.mul_le_mul_of_nonneg_right (by omega) (by omega)
        have hp0 : 0 ≤ g * v2 := Int.mul_nonneg hg0 (by omega)
        refine ⟨⟨by omega, by omega⟩, ?_⟩
        refine ⟨_, iv2 rfl rfl, ?_⟩
        refine ⟨_, lv2, ?_⟩
        refine ⟨⟨by omega, by omega⟩, ?_⟩
        refine ⟨⟨by omega, by omega⟩, ?_⟩
        refine ⟨⟨by omega, by omega⟩, ?_⟩
        refine ⟨_, idx_off hT (b := b) (o := o) (l := lv.length + 3) (c := c) (n := ((lv.length + 2 : Nat) : Int) - 2) (k := lv.length) rfl rfl (by omega) (by omega), ?_⟩
        refine ⟨_, load_off hT hB gu2, ?_⟩
        refine ⟨⟨by omega, by omega⟩, ?_⟩
        refine ⟨fun hgt => ?_, fun hle => ?_⟩
        · refine ⟨draw_of2 H 24 (by kernel_rfl) rfl ?_ ?_ ?_, ?_⟩
          · exact ⟨trivial, trivial, trivial, trivial, trivial, trivial, trivial, trivial, trivial, trivial, trivial, ⟨_, _, _, congrArg some (hav _), hbv, lv2', si _⟩, trivial, trivial, trivial, trivial, trivial, trivial, trivial, ⟨_, _, _, rfl, hb, load_off hT hB gu2, si _⟩, trivial, trivial, trivial, trivial, trivial⟩
          · repeat' (first | exact trivial | refine ⟨fun _ _ => rfl, ?_⟩)
          · repeat' (first | exact trivial | refine ⟨Nat.le_refl _, ?_⟩)
          obtain ⟨k1, k2, k3⟩ := body hrB (.inr hgt)
          refine ⟨⟨by omega, by omega⟩, ?_⟩
          refine ⟨⟨by omega, by omega⟩, ?_⟩
          refine ⟨_, iv1 rfl rfl, ?_⟩
          refine ⟨_, lv1, ?_⟩
          refine ⟨⟨by omega, by omega⟩, ?_⟩
          exact ⟨(g - 1).toNat, by omega, g - 1, r + v1, _, _, _, _, _, _, _, _, _, _, _, _, _, _, _, _, _, _, _, _, _, _, _, _, _, _, _, _, _, _, _, _, _, _, _, _, _, _, _, _, _, _, _, _, _, _, _, _, _, _, _, _, _, _, _, _, _, _, _, _, _, _, _, _, _, _, _, _, _, _, _, _, _, _, rfl, rfl, k1, by omega, by omega, by omega, by omega, k3⟩
        · refine ⟨draw_of2 H 24 (by kernel_rfl) rfl ?_ ?_ ?_, ?_⟩
          · exact ⟨trivial, trivial, trivial, trivial, trivial, trivial, trivial, trivial, trivial, trivial, trivial, ⟨_, _, _, congrArg some (hav _), hbv, lv2', si _⟩, trivial, trivial, trivial, trivial, trivial, trivial, trivial, ⟨_, _, _, rfl, hb, load_off hT hB gu2, si _⟩, trivial, trivial, trivial, trivial, trivial⟩
          · repeat' (first | exact trivial | refine ⟨fun _ _ => rfl, ?_⟩)
          · repeat' (first | exact trivial | refine ⟨Nat.le_refl _, ?_⟩)
          have hkeep := D.keep hgr hr0 hg0 (.inr ⟨hgB2, hle⟩)
          rw [← hvU, ← hvV] at hkeep hub
          refine (subtract_run S h211 (H := H) (v := v) (b := b) (o := o) (c := c) (n := lv.length + 2) (A := A) (U := lo ++ [u2, u1]) (Z := Z) (vs := lv ++ [v2, v1]) (g := g) (t0 := u0) hn hb hA hU2 hV2 (by omega) hB hv hvb dU dv (by omega) (by omega)).mono ?_
          rintro _ H1 ⟨L, t, rfl, hL, dL, hval, ht1, ht2, hU⟩
          refine ⟨fun hneg => ?_, fun hpos => ?_⟩
          · have htn : -100000000 ≤ t := by
              rw [hvs] at hkeep
              have hLv := dL.val
              rw [hL] at hLv
              have := top_neg hL dL hval (by omega) (by have := Int.mul_le_mul_of_nonneg_left (show t ≤ -1 by omega) (show 0 ≤ pw (lv.length + 2) by have := pw_pos (lv.length + 2); omega); omega)
              omega
            refine (subtract_run S h211 (H := H1) (v := v) (b := b) (o := o) (c := c) (n := lv.length + 2) (A := A) (U := L) (Z := Z) (vs := lv ++ [v2, v1]) (g := -1) (t0 := t) (by rw [hU.n]; exact hn) (by rw [hU.n]; exact hb) hA hL hV2 (by omega) hU.at_ (hv.other hvb hU.other) hvb dL dv (by omega) (by omega)).mono ?_
            rintro _ H2 ⟨L', t', rfl, hL', dL', hval', -, -, hU'⟩
            refine ⟨⟨by omega, by omega⟩, ?_⟩
            exact fin2 g t t' L L' H1 H2 hkeep.1 hL dL hval hneg hkeep.2 hL' dL' hval' h0U hg0 hU hU'
          · exact fin1 g t L H1 hkeep.1 hg0 hL dL hval hpos hub hU
    · refine ⟨draw_of2 H 24 (by kernel_rfl) rfl ?_ ?_ ?_, ?_⟩
      · repeat' (first | exact trivial | refine ⟨trivial, ?_⟩)
      · repeat' (first | exact trivial | refine ⟨fun _ _ => rfl, ?_⟩)
      · repeat' (first | exact trivial | refine ⟨Nat.le_refl _, ?_⟩)
      have hkeep := D.keep hgr hr0 hg0 (.inl hrB)
      rw [← hvU, ← hvV] at hkeep hub
      refine (subtract_run S h211 (H := H) (v := v) (b := b) (o := o) (c := c) (n := lv.length + 2) (A := A) (U := lo ++ [u2, u1]) (Z := Z) (vs := lv ++ [v2, v1]) (g := g) (t0 := u0) hn hb hA hU2 hV2 (by omega) hB hv hvb dU dv (by omega) (by omega)).mono ?_
      rintro _ H1 ⟨L, t, rfl, hL, dL, hval, ht1, ht2, hU⟩
      refine ⟨fun hneg => ?_, fun hpos => ?_⟩
      · have htn : -100000000 ≤ t := by
          rw [hvs] at hkeep
          have hLv := dL.val
          rw [hL] at hLv
          have := top_neg hL dL hval (by omega) (by have := Int.mul_le_mul_of_nonneg_left (show t ≤ -1 by omega) (show 0 ≤ pw (lv.length + 2) by have := pw_pos (lv.length + 2); omega); omega)
          omega
        refine (subtract_run S h211 (H := H1) (v := v) (b := b) (o := o) (c := c) (n := lv.length + 2) (A := A) (U := L) (Z := Z) (vs := lv ++ [v2, v1]) (g := -1) (t0 := t) (by rw [hU.n]; exact hn) (by rw [hU.n]; exact hb) hA hL hV2 (by omega) hU.at_ (hv.other hvb hU.other) hvb dL dv (by omega) (by omega)).mono ?_
        rintro _ H2 ⟨L', t', rfl, hL', dL', hval', -, -, hU'⟩
        refine ⟨⟨by omega, by omega⟩, ?_⟩
        exact fin2 g t t' L L' H1 H2 hkeep.1 hL dL hval hneg hkeep.2 hL' dL' hval' h0U hg0 hU hU'
      · exact fin1 g t L H1 hkeep.1 hg0 hL dL hval hpos hub hU
end Go.PI
