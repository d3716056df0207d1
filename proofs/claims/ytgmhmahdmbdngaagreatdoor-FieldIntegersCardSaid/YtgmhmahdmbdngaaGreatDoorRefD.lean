/- Own work of the verifier, group RefD: PiRef6. -/
import Derived.Test.YtgmhmahdmbdngaaGreatDoorRefC
set_option linter.all false
set_option linter.deprecated false
/- The reference's division. -/
open Go.Proofs
namespace Go.PI
open IM
theorem fn120 : ctx.fn 120 = some c120 := by kernel_rfl
set_option maxRecDepth 10000
set_option maxHeartbeats 4000000
variable (S : FuncId → Option (List AV → Heap → Option (AV × Heap)))
theorem ex60 (T : List AV) (h : T.length = 60) : T = [T.getD 0 undefA, T.getD 1 undefA, T.getD 2 undefA, T.getD 3 undefA, T.getD 4 undefA, T.getD 5 undefA, T.getD 6 undefA, T.getD 7 undefA, T.getD 8 undefA, T.getD 9 undefA, T.getD 10 undefA, T.getD 11 undefA, T.getD 12 undefA, T.getD 13 undefA, T.getD 14 undefA, T.getD 15 undefA, T.getD 16 undefA, T.getD 17 undefA, T.getD 18 undefA, T.getD 19 undefA, T.getD 20 undefA, T.getD 21 undefA, T.getD 22 undefA, T.getD 23 undefA, T.getD 24 undefA, T.getD 25 undefA, T.getD 26 undefA, T.getD 27 undefA, T.getD 28 undefA, T.getD 29 undefA, T.getD 30 undefA, T.getD 31 undefA, T.getD 32 undefA, T.getD 33 undefA, T.getD 34 undefA, T.getD 35 undefA, T.getD 36 undefA, T.getD 37 undefA, T.getD 38 undefA, T.getD 39 undefA, T.getD 40 undefA, T.getD 41 undefA, T.getD 42 undefA, T.getD 43 undefA, T.getD 44 undefA, T.getD 45 undefA, T.getD 46 undefA, T.getD 47 undefA, T.getD 48 undefA, T.getD 49 undefA, T.getD 50 undefA, T.getD 51 undefA, T.getD 52 undefA, T.getD 53 undefA, T.getD 54 undefA, T.getD 55 undefA, T.getD 56 undefA, T.getD 57 undefA, T.getD 58 undefA, T.getD 59 undefA] := by
  have := expand T
  rw [h] at this
  exact this
theorem append_front {C : Ctx} (hT : C.ty = tget) {H : Heap} {v : AV} {xs : List Int} {e : Int} (hn : H.n + 2 < lim) (h : Sl H v xs) (hl : xs.length ≤ 1000000) :
    ∃ r H', appendE C [22, 22] (.sl H.n 0 1 1) v (H.push (.cells true 3 [iv e])) = some (r, H') ∧ Mine H H.n r (e :: xs) H' ∧ H'.n ≤ H.n + 2 := by
  have hp := Heap.get_push (H := H) (b := .cells true 3 [iv e]) (by omega)
  have hpn : (H.push (.cells true 3 [iv e])).n = H.n + 1 := rfl
  generalize H.push (.cells true 3 [iv e]) = H1 at hp hpn ⊢
  have hk1 : ∀ A, A < H.n → H1.get A = H.get A := fun A hA => by rw [hp, if_neg (by omega)]
  have hb1 : H1.get H.n = .cells true 3 [iv e] := by rw [hp, if_pos rfl]
  have h1 := h.mono hk1
  have hnlim : ¬ lim ≤ H1.n := by omega
  by_cases h0 : xs = []
  · subst h0
    refine ⟨.sl H.n 0 1 1, H1.set H.n (.cells true 3 [iv e]), ?_, ⟨by show H.n ≤ H1.n; omega, fun A hA _ => ?_, H.n, [e], ⟨?_, by simp, .inl ⟨1, rfl, by simp, by simp⟩⟩, rfl, .inl rfl⟩, by show H1.n ≤ H.n + 2; omega⟩
    · simp only [appendE, ty22 hT, ty3 hT, t22, t3, srcOk, lenE_sl h1, cellsE_sl h1 (Nat.le_refl _), hb1, List.take_length, ones_ints]
      simp [hnlim, ints, splice]
    · rw [Heap.get_set (by omega) (by omega), if_neg (by omega)]; exact hk1 A hA
    · rw [Heap.get_set (by omega) (by omega), if_pos rfl]; rfl
  · have hpos : 0 < xs.length := List.length_pos_iff.2 h0
    refine ⟨.slu H1.n 0 (1 + xs.length) 1, H1.push (.cells true 3 (ints (e :: xs))), ?_, ⟨by show H.n ≤ H1.n + 1; omega, fun A hA _ => ?_, H1.n, e :: xs, ⟨?_, Nat.le_refl _, .inr (by simp [Nat.add_comm])⟩, List.take_length, .inr (by omega)⟩, by show H1.n + 1 ≤ H.n + 2; omega⟩
    · simp only [appendE, ty22 hT, ty3 hT, t22, t3, srcOk, lenE_sl h1, cellsE_sl h1 (Nat.le_refl _), hb1, List.take_length, ones_ints]
      simp [hnlim, h0, ints]
      omega
    · rw [Heap.get_push (by omega), if_neg (by omega)]; exact hk1 A hA
    · rw [Heap.get_push (by omega), if_pos rfl]
theorem digits_small {m : Int} (h : 0 ≤ m ∧ m < 100000000) : (digits m).length ≤ 1 := by
  have e : pw 1 = 100000000 := by decide
  exact len_of ⟨by omega, by omega⟩
theorem Mine.nb {H0 H : Heap} {v : AV} {xs : List Int} (h : Mine H0 H0.n v xs H) {A : Nat} (hA : A < H0.n) : nb v A := by
  obtain ⟨-, -, b, zs, ⟨-, -, ⟨c, rfl, -, -⟩ | rfl⟩, -, hb⟩ := h
  · show b ≠ A; omega
  · show b ≠ A; omega
theorem pw_le20 {k : Nat} (h : k ≤ 20) : pw k ≤ pw 20 := pw_mono h
theorem rdivide_run (hR : OldR S) {H : Heap} {x y : AV} {us ws : List Int} (hn : H.n + 20000000 < lim) (hx : Sl H x us) (hy : Sl H y ws) (lx : us.length ≤ 12) (ly : ws.length ≤ 12) (dx : Dig us) (dy : Dig ws) (ty : Top ws) (hy0 : 0 < val ws) :
    Cl (ctx.plus S) 120 [x, y] H fun r H' => ∃ q w, r = .tup [q, w] ∧ RV H' q (digits (val us / val ws)) ∧ RV H' w (digits (val us % val ws)) ∧ Kp H H' (300000 * us.length + 10) := by
  refine cl_of hR.h120 fn120 ?_
  have hT : (ctx.plus S).ty = tget := rfl
  obtain ⟨D, hD⟩ : ∃ D, val ws = D := ⟨_, rfl⟩
  have hws : ws = digits D := by rw [← hD, digits_val (dy.nrm ty)]
  have bD := dy.val
  rw [hD] at bD hy0 ⊢
  refine ⟨_, len_sl hT (v := x) rfl hx, ?_⟩
  refine ⟨by omega, ⟨by omega, by omega, by omega⟩, ?_⟩
  obtain ⟨N, hN⟩ : ∃ N, us.length = N := ⟨_, rfl⟩
  rw [hN]
  rw [show ((N : Int)).toNat = N by omega, show (List.replicate N t3.zero.cells).flatten = ints (List.replicate N 0) from ints_zeros _]
  have hp := Heap.get_push (H := H) (b := .cells true 3 (ints (List.replicate N 0))) (by omega)
  have hpn : (H.push (.cells true 3 (ints (List.replicate N 0)))).n = H.n + 1 := rfl
  generalize H.push (.cells true 3 (ints (List.replicate N 0))) = H1 at hp hpn ⊢
  have hk1 : ∀ A, A < H.n → H1.get A = H.get A := fun A hA => by rw [hp, if_neg (by omega)]
  refine ⟨_, len_sl hT (v := x) rfl hx, ?_⟩
  rw [hN]
  refine ⟨⟨by omega, by omega⟩, ?_⟩
  refine ⟨fun m s => ∃ (k : Nat) (n : Int) (r : AV) (R : Int) (Qs : List Int) (H' : Heap) (T : List AV),
    s = ⟨T, H', []⟩ ∧ T.length = 60 ∧ T.getD 0 undefA = x ∧ T.getD 1 undefA = y ∧ T.getD 6 undefA = .sl H.n 0 N N ∧ T.getD 7 undefA = r ∧ T.getD 8 undefA = iv n ∧ m = k ∧ n = (k : Int) - 1 ∧ k ≤ N ∧ RV H' r (digits R) ∧ 0 ≤ R ∧ R < D ∧ Dig Qs ∧ Qs.length + k = N ∧ val Qs * D + R = val (us.drop k) ∧
      H1.n ≤ H'.n ∧ (∀ A, A < H.n → H'.get A = H.get A) ∧ H'.get H.n = .cells true 3 (ints (List.replicate k 0 ++ Qs)) ∧ H'.n ≤ H1.n + 300000 * (N - k), ⟨N, ?_⟩, ?_⟩
  · exact ⟨N, _, .nils, 0, [], H1, _, rfl, rfl, rfl, rfl, rfl, rfl, rfl, rfl, rfl, Nat.le_refl _, rv_nil H1, by omega, hy0, fun _ h => (List.not_mem_nil h).elim, by simp, by rw [← hN, List.drop_length]; simp [val], Nat.le_refl _, hk1, by rw [hp, if_pos rfl, List.append_nil], by omega⟩
  · rintro m s ⟨k, n, r, R, Qs, H', T, rfl, hTl, h0t, h1t, h6t, h7t, h8t, hm, rfl, hk, hr, hR0, hRD, dQ, hQ, hv, hn1, c0, c1, hn2⟩
    obtain ⟨J, rfl⟩ : ∃ J : Nat → AV, T = [x, y, J 2, J 3, J 4, J 5, .sl H.n 0 N N, r, iv ((k : Int) - 1), J 9, J 10, J 11, J 12, J 13, J 14, J 15, J 16, J 17, J 18, J 19, J 20, J 21, J 22, J 23, J 24, J 25, J 26, J 27, J 28, J 29, J 30, J 31, J 32, J 33, J 34, J 35, J 36, J 37, J 38, J 39, J 40, J 41, J 42, J 43, J 44, J 45, J 46, J 47, J 48, J 49, J 50, J 51, J 52, J 53, J 54, J 55, J 56, J 57, J 58, J 59] := ⟨fun i => T.getD i undefA, (ex60 T hTl).trans (by rw [h0t, h1t, h6t, h7t, h8t])⟩
    clear hTl h0t h1t h6t h7t h8t
    have hrl : (digits R).length ≤ 12 := by
      have : (digits R).length ≤ (digits D).length := digits_len_le hR0 (by omega)
      rw [← hws] at this
      omega
    refine ⟨fun hge => ?_, fun hlt => ?_⟩
    · obtain ⟨k, rfl⟩ : ∃ j, k = j + 1 := ⟨k - 1, by omega⟩
      have hj : ((k + 1 : Nat) : Int) - 1 = (k : Int) := by omega
      rw [hj]
      obtain ⟨e, he⟩ : ∃ e, us[k]? = some e := ⟨us[k]'(by omega), List.getElem?_eq_getElem _⟩
      have heB := dx e (List.mem_of_getElem? he)
      have hx' : Sl H' x us := hx.mono c0
      refine ⟨_, idx_sl hT (v := x) (n := (k : Int)) (k := k) rfl rfl hx' rfl (by omega), ?_⟩
      refine ⟨_, load_sl hT hx' he, ?_⟩
      refine ⟨by omega, _, _, rfl, ?_⟩
      obtain ⟨r1, H2, ha, hM2, hn3⟩ := append_front hT (C := ctx.plus S) (e := e) (by omega) hr.sl (by omega)
      refine ⟨r1, H2, ha, ?_⟩
      have hM2n := hM2.n
      have dig1 : Dig (e :: digits R) := fun z hz => by
        rcases List.mem_cons.1 hz with rfl | hz
        · exact heB
        · exact dig_digits hR0 z hz
      refine (rtrim_run S hR.h111 (H := H2) (by omega) hM2.rv (by simp; omega)).mono ?_
      rintro r2 H3 ⟨hM3, hn4⟩
      have hM3n := hM3.n
      obtain ⟨R1, hR1⟩ : ∃ R1, e + 100000000 * R = R1 := ⟨_, rfl⟩
      have hv1 : val (e :: digits R) = R1 := by simp only [val]; rw [val_digits, hR1]
      rw [dig1.trim, hv1] at hM3
      have k23 : Kp H' H3 10 := ⟨by omega, by omega, fun A hA => (hM3.keep A (by omega) (by omega)).trans (hM2.keep A hA (by omega))⟩
      have hR1b : 0 ≤ R1 ∧ R1 < 100000000 * D := by omega
      have pD : pw ws.length * 100000000 ≤ pw 20 := by
        have : pw (ws.length + 1) ≤ pw 20 := pw_le20 (by omega)
        rw [pw_succ] at this
        omega
      have svR : SV H3 r2 (digits R1) R1 := SV.of hM3.toSl (by omega)
      have hy' : Sl H' y ws := hy.mono c0
      have svD : SV H3 y ws D := ⟨hy'.kp k23, fun z hz => by have := dy z hz; unfold In64; omega, by omega, hD, by rw [← hws]; omega⟩
      refine ⟨fun m s => ∃ (g : Nat) (lo hi : Int) (H4 : Heap) (T : List AV),
        s = ⟨T, H4, []⟩ ∧ T.length = 60 ∧ T.getD 0 undefA = x ∧ T.getD 1 undefA = y ∧ T.getD 6 undefA = .sl H.n 0 N N ∧ T.getD 7 undefA = r2 ∧ T.getD 8 undefA = iv k ∧ T.getD 9 undefA = iv lo ∧ T.getD 10 undefA = iv hi ∧ m = (hi - lo).toNat ∧ 0 ≤ lo ∧ lo ≤ hi ∧ hi ≤ 99999999 ∧ lo * D ≤ R1 ∧ R1 < (hi + 1) * D ∧ hi - lo < 2 ^ g ∧ g ≤ 27 ∧ Kp H3 H4 (10010 * (27 - g)), ⟨99999999, ?_⟩, ?_⟩
      · exact ⟨27, 0, 99999999, H3, _, rfl, rfl, rfl, rfl, rfl, rfl, rfl, rfl, rfl, rfl, by omega, by omega, by omega, by omega, by omega, by decide, Nat.le_refl _, Kp.refl _ _⟩
      · rintro m s ⟨g, lo, hi, H4, T, rfl, hTl, h0t, h1t, h6t, h7t, h8t, h9t, h10t, rfl, b1, b2, b3, b4, b5, b6, b7, k4⟩
        obtain ⟨J', rfl⟩ : ∃ J : Nat → AV, T = [x, y, J 2, J 3, J 4, J 5, .sl H.n 0 N N, r2, iv k, iv lo, iv hi, J 11, J 12, J 13, J 14, J 15, J 16, J 17, J 18, J 19, J 20, J 21, J 22, J 23, J 24, J 25, J 26, J 27, J 28, J 29, J 30, J 31, J 32, J 33, J 34, J 35, J 36, J 37, J 38, J 39, J 40, J 41, J 42, J 43, J 44, J 45, J 46, J 47, J 48, J 49, J 50, J 51, J 52, J 53, J 54, J 55, J 56, J 57, J 58, J 59] := ⟨fun i => T.getD i undefA, (ex60 T hTl).trans (by rw [h0t, h1t, h6t, h7t, h8t, h9t, h10t])⟩
        clear hTl h0t h1t h6t h7t h8t h9t h10t
        have k4m := k4.m
        have k4n := k4.n
        -- a product of the divisor by a machine's integer below the base
        have mulD : ∀ (G : Heap) (c : Int), 0 ≤ c → c < 100000000 → SV G y ws D → (G.push (.cells true 3 [iv c])).n + 20000 < lim → Cl (ctx.plus S) 32 [y, .sl G.n 0 1 1] (G.push (.cells true 3 [iv c])) fun r H' => Sl H' r (digits (D * c)) ∧ RV H' r (digits (D * c)) ∧ Kp G H' 10001 := by
          intro G c hc0 hcB hG hnG
          have hpG := Heap.get_push (H := G) (b := .cells true 3 [iv c]) (by have : (G.push (.cells true 3 [iv c])).n = G.n + 1 := rfl
                                                                             omega)
          have kG : Kp G (G.push (.cells true 3 [iv c])) 1 := ⟨by show G.n ≤ G.n + 1; omega, Nat.le_refl _, fun A hA => by rw [hpG, if_neg (by omega)]⟩
          have hd1 : (digits c).length ≤ 1 := digits_small ⟨hc0, hcB⟩
          have svc : SV (G.push (.cells true 3 [iv c])) (.sl G.n 0 1 1) [c] c := ⟨⟨rfl, true, 3, [iv c], by rw [hpG, if_pos rfl], by simp, rfl⟩, fun z hz => by
            have : z = c := by simpa using hz
            subst this; unfold In64; omega, by simp, by simp [val], by omega⟩
          have hwl : (digits D).length ≤ 12 := by rw [← hws]; exact ly
          refine (rmul_run S hR (H := G.push (.cells true 3 [iv c])) hnG (hG.kp kG) svc (by omega)).mono ?_
          rintro r H' ⟨h1, h2⟩
          exact ⟨h1.toSl, h1.rv, kG.trans (h1.kp h2) (by omega)⟩
        refine ⟨fun hlt => ?_, fun hge2 => ?_⟩
        · obtain ⟨g, rfl⟩ : ∃ j, g = j + 1 := by
            cases g with
            | zero => rw [Int.pow_zero] at b6; omega
            | succ j => exact ⟨j, rfl⟩
          have hpw : (2:Int) ^ (g + 1) = 2 * 2 ^ g := by rw [Int.pow_succ]; omega
          rw [hpw] at b6
          refine ⟨⟨by omega, by omega⟩, ?_⟩
          refine ⟨⟨by omega, by omega⟩, ?_⟩
          obtain ⟨c, hc⟩ : ∃ c, (lo + hi + 1).tdiv 2 = c := ⟨_, rfl⟩
          have hc' : c = (lo + hi + 1) / 2 := by rw [← hc]; exact Int.tdiv_eq_ediv_of_nonneg (by omega)
          refine ⟨⟨by decide, by rw [hc]; unfold In64; omega⟩, ?_⟩
          rw [hc]
          refine ⟨by omega, _, _, rfl, ?_⟩
          refine (mulD H4 c (by omega) (by omega) (svD.kp k4) (by show H4.n + 1 + 20000 < lim; omega)).mono ?_
          rintro p H5 ⟨hp5, -, k5⟩
          have k5m := k5.m
          have k5n := k5.n
          have hDc : 0 ≤ D * c := Int.mul_nonneg (by omega) (by omega)
          have hDc2 : D * c ≤ D * 99999999 := Int.mul_le_mul_of_nonneg_left (by omega) (by omega)
          have lp : (digits (D * c)).length ≤ 20 := len_of ⟨by omega, by omega⟩
          have lr1 := svR.dl
          refine (less_run S hR (H := H5) (x := r2) (y := p) ((svR.sl.kp k4).kp k5) hp5 (by omega) (by omega) (dig_digits hR1b.1) (dig_digits hDc) (nrm_digits _).2 (nrm_digits _).2).mono ?_
          rw [val_digits, val_digits]
          rintro _ _ ⟨rfl, rfl⟩
          have hcD : D * c = c * D := Int.mul_comm _ _
          by_cases hless : R1 < D * c
          · rw [decide_eq_true hless]
            refine ⟨⟨by omega, by omega⟩, ?_⟩
            exact ⟨(c - 1 - lo).toNat, by omega, g, lo, c - 1, H5, _, rfl, rfl, rfl, rfl, rfl, rfl, rfl, rfl, rfl, rfl, b1, by omega, by omega, b4, by rw [Int.sub_add_cancel]; omega, by omega, by omega, k4.trans k5 (by omega)⟩
          · rw [decide_eq_false hless]
            exact ⟨(hi - c).toNat, by omega, g, c, hi, H5, _, rfl, rfl, rfl, rfl, rfl, rfl, rfl, rfl, rfl, rfl, by omega, by omega, b3, by omega, b5, by omega, by omega, k4.trans k5 (by omega)⟩
        · have hlh : lo = hi := by omega
          subst hlh
          have q1 : H4.get H.n = .cells true 3 (ints (List.replicate (k + 1) 0 ++ Qs)) := by rw [k4.get _ (by omega), k23.get _ (by omega)]; exact c1
          have hOw : Ow H4 (.sl H.n 0 N N) H.n (List.replicate (k + 1) 0 ++ Qs) N := ⟨q1, by simp; omega, .inl ⟨N, rfl, Nat.le_refl _, by simp; omega⟩⟩
          refine ⟨_, idx_sl hT (v := .sl H.n 0 N N) (n := (k : Int)) (k := k) rfl rfl hOw.sl rfl (by simp; omega), ?_⟩
          refine ⟨_, store_ow hT hOw (by omega), ?_⟩
          let H5 : Heap := H4.set H.n (.cells true 3 (ints ((List.replicate (k + 1) 0 ++ Qs).set k lo)))
          have hX5 : Upd H4 H.n (.cells true 3 (ints ((List.replicate (k + 1) 0 ++ Qs).set k lo))) H5 := upd_set (by omega) (by omega)
          have hset : (List.replicate (k + 1) (0:Int) ++ Qs).set k lo = List.replicate k 0 ++ lo :: Qs := by
            rw [List.replicate_succ', List.append_assoc, List.set_append_right _ _ (by simp)]; simp
          rw [hset] at hX5
          have hn5 := hX5.n
          have kH4 : ∀ A, A < H.n → H4.get A = H.get A := fun A hA => by rw [k4.get A (by omega), k23.get A (by omega)]; exact c0 A hA
          have kH5 : ∀ A, A < H.n → H5.get A = H.get A := fun A hA => by rw [hX5.other A (by omega)]; exact kH4 A hA
          have svD5 : SV H5 y ws D := ⟨hy.mono kH5, svD.in64, svD.len, svD.val, svD.dl⟩
          have r2nb : nb r2 H.n := hM3.nb (by omega)
          have svR5 : SV H5 r2 (digits R1) R1 := ⟨((svR.kp k4).sl).other r2nb hX5.other, svR.in64, svR.len, svR.val, svR.dl⟩
          refine ⟨by show H5.n < lim; omega, _, _, rfl, ?_⟩
          refine (mulD H5 lo (by omega) (by omega) svD5 (by show H5.n + 1 + 20000 < lim; omega)).mono ?_
          rintro p H6 ⟨hp6, -, k6⟩
          have k6m := k6.m
          have k6n := k6.n
          have hDc : 0 ≤ D * lo := Int.mul_nonneg (by omega) (by omega)
          have hcD : D * lo = lo * D := Int.mul_comm _ _
          have svp : SV H6 p (digits (D * lo)) (D * lo) := SV.of hp6 ⟨by omega, by omega⟩
          refine (rsub_run S hR (H := H6) (by omega) (svR5.kp k6) svp).mono ?_
          rintro r3 H7 ⟨hM7, hn7⟩
          have hM7n := hM7.n
          have hD1 : (lo + 1) * D = lo * D + D := by rw [Int.add_mul]; omega
          refine ⟨⟨by omega, by omega⟩, ?_⟩
          refine ⟨k, by omega, k, _, r3, R1 - D * lo, lo :: Qs, H7, _, rfl, rfl, rfl, rfl, rfl, rfl, rfl, rfl, by omega, by omega, hM7.rv, by omega, by omega, fun z hz => ?_, by simp; omega, ?_, by omega, fun A hA => ?_, ?_, by omega⟩
          · rcases List.mem_cons.1 hz with rfl | hz
            · omega
            · exact dQ z hz
          · rw [val_cons_drop he, ← hv]
            simp only [val]
            grind
          · rw [hM7.keep A (by omega) (by omega), k6.get A (by omega)]; exact kH5 A hA
          · rw [hM7.keep _ (by omega) (by omega), k6.get _ (by omega)]; exact hX5.at_
    · have hk0 : k = 0 := by omega
      subst hk0
      have hOw : Ow H' (.sl H.n 0 N N) H.n Qs N := ⟨c1, by omega, .inl ⟨N, rfl, Nat.le_refl _, by omega⟩⟩
      have hq := hOw.rv
      rw [List.take_of_length_le (by omega)] at hq
      refine (rtrim_run S hR.h111 (H := H') (by omega) hq (by omega)).mono ?_
      rintro q H2 ⟨hM2, hn3⟩
      have hM2n := hM2.n
      rw [dQ.trim] at hM2
      obtain ⟨m1, m2⟩ := divmod_of (v := val us) (d := D) (q := val Qs) (r := R) (by rw [hv]; rfl) hR0 hRD
      have k2 : Kp H' H2 2 := hM2.kp hn3
      have hfin : ∃ q' w, AV.tup [q, r] = .tup [q', w] ∧ RV H2 q' (digits (val us / D)) ∧ RV H2 w (digits (val us % D)) ∧ Kp H H2 (300000 * N + 10) :=
        ⟨q, r, rfl, by rw [m1]; exact hM2.rv, by rw [m2]; exact hr.kp k2, by omega, by omega, fun A hA => by rw [k2.get A (by omega)]; exact c0 A hA⟩
      exact hfin
end Go.PI

