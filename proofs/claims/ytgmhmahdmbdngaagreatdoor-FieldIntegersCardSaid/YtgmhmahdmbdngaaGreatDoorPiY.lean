/- Own work of the verifier, group PiY: PiMix PiEucl PiGcd. -/
import Derived.Test.YtgmhmahdmbdngaaGreatDoorPiW
set_option linter.all false
set_option linter.deprecated false
/- leading, mixed. -/
open Go.Proofs
namespace Go.PI
open IM
theorem fn229 : ctx.fn 229 = some c229 := by kernel_rfl
theorem fn188 : ctx.fn 188 = some c188 := by kernel_rfl
set_option maxRecDepth 10000
set_option maxHeartbeats 4000000
variable (S : FuncId → Option (List AV → Heap → Option (AV × Heap)))
theorem min_two {C : Ctx} {ρ : Operand → Option AV} {x y : Operand} {ts : Array TypeId} {m n : Nat} {a : Int} (hx : ρ x = some (iv a)) (hy : ρ y = some (iv n)) (ha : a = m) : pureE C ρ (.call { callee := .builtin .min, args := #[x, y], argTypes := ts }) = some (iv (min m n : Nat)) := by
  subst ha
  simp only [pureE, opds, hx, hy, builtinP, foldMinMax]
  simp
  by_cases h : n < m
  · rw [if_pos (by omega)]; omega
  · rw [if_neg (by omega)]; omega
theorem slice_low {C : Ctx} (hT : C.ty = tget) {ρ : Operand → Option AV} {x y : Operand} {H : Heap} {v : AV} {xs : List Int} {k : Nat} (hx : ρ x = some v) (hy : ρ y = some (iv k)) (h : Sl H v xs) (hc : Cp v) (hne : xs ≠ []) (hk : k ≤ xs.length) :
    ∃ r, pureE C ρ (.slice 22 x (some y) none none) = some r ∧ Sl H r (xs.drop k) := by
  have key : ∀ {b o l : Nat}, l = xs.length → (∃ rw ty cs, H.get b = .cells rw ty cs ∧ o + l ≤ cs.length ∧ (cs.drop o).take l = ints xs) → ∃ rw ty cs, H.get b = .cells rw ty cs ∧ (o + k) + (l - k) ≤ cs.length ∧ (cs.drop (o + k)).take (l - k) = ints (xs.drop k) := by
    rintro b o l rfl ⟨rw, ty, cs, h1, h2, h3⟩
    refine ⟨rw, ty, cs, h1, by omega, ?_⟩
    rw [← ints_drop, ← h3, List.drop_take, List.drop_drop]
  have hkk : (0 : Int) ≤ (k : Int) ∧ (k : Int) ≤ (xs.length : Int) := by omega
  unfold Sl at h
  split at h
  · exact absurd h hne
  · exact absurd h hne
  · rename_i b o l c
    obtain ⟨rfl, h2⟩ := h
    have hc : xs.length ≤ c := hc
    refine ⟨.sl b (if c = k then o else o + k) (xs.length - k) (c - k), ?_, ?_⟩
    · simp only [pureE, hx, hy, ty22 hT, t22, ty3 hT, bound, hkk, and_self, if_true, Int.toNat_natCast]
      simp [t3]
    · by_cases hck : c = k
      · have hl : xs.length = k := by omega
        rw [if_pos hck]
        refine ⟨by simp, ?_⟩
        obtain ⟨rw, ty, cs, q1, q2, q3⟩ := h2
        refine ⟨rw, ty, cs, q1, by omega, ?_⟩
        rw [hl, Nat.sub_self, List.take_zero, List.drop_of_length_le (by omega)]; rfl
      · rw [if_neg hck]
        exact ⟨by simp, key rfl h2⟩
  · rename_i b o l e
    obtain ⟨rfl, rfl, h2⟩ := h
    by_cases hk2 : k < xs.length
    · refine ⟨.slu b (o + k) (xs.length - k) 1, ?_, rfl, by simp, key rfl h2⟩
      simp only [pureE, hx, hy, ty22 hT, t22, ty3 hT, bound, hkk, and_self, if_true, Int.toNat_natCast]
      simp [t3, hk2]
    · have hl : xs.length = k := by omega
      by_cases h0 : 0 < k
      · refine ⟨.sle, ?_, by show xs.drop k = []; rw [List.drop_of_length_le (by omega)]⟩
        simp only [pureE, hx, hy, ty22 hT, t22, ty3 hT, bound, hkk, and_self, if_true, Int.toNat_natCast]
        simp [t3, hl, h0]
      · have hk0 : k = 0 := by omega
        subst hk0
        refine ⟨.slu b o xs.length 1, ?_, rfl, by simp, by simpa using h2⟩
        simp only [pureE, hx, hy, ty22 hT, t22, ty3 hT, bound, hkk, and_self, if_true, Int.toNat_natCast]
        simp [t3, hl]
  · exact h.elim

theorem leading_run (hS : OldI S) {H : Heap} {x : AV} {xs : List Int} {N : Nat} (hn : H.n + 20 < lim) (hx : Sl H x xs) (hc : Cp x) (hN : 2 ≤ N) (hl : xs.length ≤ N) (hNl : N ≤ 1000000) (dx : Dig xs) (hne : xs ≠ []) :
    Cl (ctx.plus S) 229 [x, iv N] H fun r H' => r = iv (val (xs.drop (min (N - 2) xs.length))) ∧ Kp H H' 10 := by
  refine cl_of hS.h229 fn229 ?_
  have hT : (ctx.plus S).ty = tget := rfl
  refine ⟨⟨by omega, by omega⟩, ?_⟩
  refine ⟨_, len_sl hT (v := x) rfl hx, ?_⟩
  refine ⟨_, min_two (m := N - 2) (n := xs.length) rfl rfl (by omega), ?_⟩
  obtain ⟨r, hr, hrs⟩ := slice_low hT (C := ctx.plus S) (ρ := fun o => match o with | .tmp 5 => some x | _ => some (iv (min (N - 2) xs.length : Nat))) (x := .tmp 5) (y := .tmp 10) (k := min (N - 2) xs.length) rfl rfl hx hc hne (by omega)
  refine ⟨r, hr, ?_⟩
  exact vsmall_run S hS.h108 hS.h182 hS.h228 (by omega) hrs (by simp; omega) (small_in (fun z hz => by have := dx z (List.mem_of_mem_drop hz); omega) (by simp; omega))
/-- what the first elements leave -/
theorem lead_val {ys : List Int} {N : Nat} (dy : Dig ys) : ∃ t, 0 ≤ t ∧ t < pw (N - 2) ∧ val ys = t + pw (N - 2) * val (ys.drop (min (N - 2) ys.length)) := by
  by_cases h : N - 2 ≤ ys.length
  · rw [Nat.min_eq_left h]
    have dt : Dig (ys.take (N - 2)) := fun z hz => dy z (List.mem_of_mem_take hz)
    have hv := dt.val
    rw [show (ys.take (N - 2)).length = N - 2 by simp; omega] at hv
    refine ⟨val (ys.take (N - 2)), hv.1, hv.2, ?_⟩
    conv => lhs; rw [← List.take_append_drop (N - 2) ys, val_append]
    rw [show (ys.take (N - 2)).length = N - 2 by simp; omega]
  · rw [Nat.min_eq_right (by omega), List.drop_of_length_le (Nat.le_refl _)]
    have hv := dy.val
    have := pw_mono (show ys.length ≤ N - 2 by omega)
    exact ⟨val ys, hv.1, by omega, by simp [val]⟩
theorem lead_small {ys : List Int} {N : Nat} (dy : Dig ys) (hl : ys.length ≤ N) (hN : 2 ≤ N) : 0 ≤ val (ys.drop (min (N - 2) ys.length)) ∧ val (ys.drop (min (N - 2) ys.length)) ≤ 10000000000000000 := by
  have dt : Dig (ys.drop (min (N - 2) ys.length)) := fun z hz => dy z (List.mem_of_mem_drop hz)
  have hv := dt.val
  have := pw_mono (show (ys.drop (min (N - 2) ys.length)).length ≤ 2 by simp; omega)
  have : pw 2 = 10000000000000000 := by decide
  omega

theorem ex54 (T : List AV) (h : T.length = 54) : T = [T.getD 0 undefA, T.getD 1 undefA, T.getD 2 undefA, T.getD 3 undefA, T.getD 4 undefA, T.getD 5 undefA, T.getD 6 undefA, T.getD 7 undefA, T.getD 8 undefA, T.getD 9 undefA, T.getD 10 undefA, T.getD 11 undefA, T.getD 12 undefA, T.getD 13 undefA, T.getD 14 undefA, T.getD 15 undefA, T.getD 16 undefA, T.getD 17 undefA, T.getD 18 undefA, T.getD 19 undefA, T.getD 20 undefA, T.getD 21 undefA, T.getD 22 undefA, T.getD 23 undefA, T.getD 24 undefA, T.getD 25 undefA, T.getD 26 undefA, T.getD 27 undefA, T.getD 28 undefA, T.getD 29 undefA, T.getD 30 undefA, T.getD 31 undefA, T.getD 32 undefA, T.getD 33 undefA, T.getD 34 undefA, T.getD 35 undefA, T.getD 36 undefA, T.getD 37 undefA, T.getD 38 undefA, T.getD 39 undefA, T.getD 40 undefA, T.getD 41 undefA, T.getD 42 undefA, T.getD 43 undefA, T.getD 44 undefA, T.getD 45 undefA, T.getD 46 undefA, T.getD 47 undefA, T.getD 48 undefA, T.getD 49 undefA, T.getD 50 undefA, T.getD 51 undefA, T.getD 52 undefA, T.getD 53 undefA] := by
  have := expand T
  rw [h] at this
  exact this
theorem mixed_run (hS : OldI S) {H : Heap} {x y : AV} {a b : Int} {xs ys : List Int} (hn : H.n + 20 < lim) (hx : Sl H x xs) (hy : Sl H y ys) (hxl : xs.length ≤ 1000000) (hyl : ys.length ≤ 1000000)
    (hxs : Sml xs) (hys : Sml ys) (ha : -100000000 ≤ a ∧ a ≤ 100000000) (hb : -100000000 ≤ b ∧ b ≤ 100000000) : Cl (ctx.plus S) 188 [iv a, x, iv b, y] H fun r H' => Mine H H.n r (digits (a * val xs + b * val ys)) H' ∧ H'.n ≤ H.n + 8 := by
  refine cl_of hS.h188 fn188 ?_
  have hT : (ctx.plus S).ty = tget := rfl
  obtain ⟨M, hM⟩ : ∃ M, M = max xs.length ys.length := ⟨_, rfl⟩
  refine ⟨_, len_sl hT (v := x) rfl hx, ?_⟩
  refine ⟨_, len_sl hT (v := y) rfl hy, ?_⟩
  refine ⟨_, max_two (m := xs.length) (n := ys.length) rfl rfl, ?_⟩
  rw [← hM]
  refine ⟨⟨by omega, by omega⟩, ?_⟩
  obtain ⟨N, hN⟩ : ∃ N, N = M + 1 := ⟨_, rfl⟩
  rw [show (M : Int) + 1 = (N : Int) by omega]
  refine ⟨by omega, ⟨by omega, by omega, by omega⟩, ?_⟩
  rw [show ((N : Int)).toNat = N by omega, show (List.replicate N t3.zero.cells).flatten = ints (List.replicate N 0) from ints_zeros _]
  have hp := Heap.get_push (H := H) (b := .cells true 3 (ints (List.replicate N 0))) (by omega)
  have hpn : (H.push (.cells true 3 (ints (List.replicate N 0)))).n = H.n + 1 := rfl
  generalize H.push (.cells true 3 (ints (List.replicate N 0))) = H1 at hp hpn ⊢
  have hk1 : ∀ A, A < H.n → H1.get A = H.get A := fun A hA => by rw [hp, if_neg (by omega)]
  have hb1 : H1.get H.n = .cells true 3 (ints (List.replicate N 0)) := by rw [hp, if_pos rfl]
  refine ⟨_, len_sl hT (v := x) rfl hx, ?_⟩
  refine ⟨fun m s => ∃ (i : Nat) (n : Int) (H' : Heap) (T : List AV),
    s = ⟨T, H', []⟩ ∧ T.length = 54 ∧ T.getD 0 undefA = iv a ∧ T.getD 1 undefA = x ∧ T.getD 2 undefA = iv b ∧ T.getD 3 undefA = y ∧ T.getD 9 undefA = .sl H.n 0 N N ∧ T.getD 21 undefA = x ∧ T.getD 22 undefA = iv xs.length ∧ T.getD 23 undefA = iv n ∧ m = xs.length - i ∧ n = i ∧ i ≤ xs.length ∧ Upd H1 H.n (.cells true 3 (ints (mulL a (xs.take i) ++ List.replicate (N - i) 0))) H', ⟨xs.length, ?_⟩, ?_⟩
  · exact ⟨0, _, H1, _, rfl, rfl, rfl, rfl, rfl, rfl, rfl, rfl, rfl, rfl, rfl, rfl, Nat.zero_le _, Upd.refl (by simpa [mulL] using hb1)⟩
  · rintro m s ⟨i, n, H', T, rfl, hTl, h0t, h1t, h2t, h3t, h9t, h21t, h22t, h23t, hm', rfl, hi, hV⟩
    obtain ⟨J, rfl⟩ : ∃ J : Nat → AV, T = [iv a, x, iv b, y, J 4, J 5, J 6, J 7, J 8, .sl H.n 0 N N, J 10, J 11, J 12, J 13, J 14, J 15, J 16, J 17, J 18, J 19, J 20, x, iv xs.length, iv i, J 24, J 25, J 26, J 27, J 28, J 29, J 30, J 31, J 32, J 33, J 34, J 35, J 36, J 37, J 38, J 39, J 40, J 41, J 42, J 43, J 44, J 45, J 46, J 47, J 48, J 49, J 50, J 51, J 52, J 53] := ⟨fun i => T.getD i undefA, (ex54 T hTl).trans (by rw [h0t, h1t, h2t, h3t, h9t, h21t, h22t, h23t])⟩
    clear hTl h0t h1t h2t h3t h9t h21t h22t h23t
    have hk : ∀ A, A < H.n → H'.get A = H.get A := fun A hA => by rw [hV.other A (by omega)]; exact hk1 A hA
    have hn' : H'.n = H.n + 1 := by rw [hV.n]; exact hpn
    have hZl : (mulL a (xs.take i) ++ List.replicate (N - i) 0).length = N := by simp [mulL]; omega
    have hOw : Ow H' (.sl H.n 0 N N) H.n (mulL a (xs.take i) ++ List.replicate (N - i) 0) N := ⟨hV.at_, by omega, .inl ⟨N, rfl, by omega, by omega⟩⟩
    refine ⟨fun hlt => ?_, fun hge => ?_⟩
    · obtain ⟨e, he⟩ : ∃ e, xs[i]? = some e := ⟨xs[i]'(by omega), List.getElem?_eq_getElem _⟩
      have heB := hxs e (List.mem_of_getElem? he)
      have hfe := mul_bd (a := a) (b := e) (m := 100000000) (n := 100000000) (by omega) (by omega)
      refine ⟨_, idx_sl hT (v := x) (n := i) rfl rfl (hx.mono hk) rfl (by omega), ?_⟩
      refine ⟨_, load_sl hT (hx.mono hk) he, ?_⟩
      refine ⟨⟨by omega, by omega⟩, ?_⟩
      refine ⟨_, idx_sl hT (v := .sl H.n 0 N N) (n := i) rfl rfl hOw.sl rfl (by rw [List.take_of_length_le (by omega)]; omega), ?_⟩
      refine ⟨_, store_ow hT hOw (by omega), ?_⟩
      refine ⟨⟨by omega, by omega⟩, ?_⟩
      refine ⟨xs.length - (i + 1), by omega, i + 1, _, _, _, rfl, rfl, rfl, rfl, rfl, rfl, rfl, rfl, rfl, rfl, rfl, rfl, by omega, ?_⟩
      have hset : (mulL a (xs.take i) ++ List.replicate (N - i) 0).set i (a * e) = mulL a (xs.take (i + 1)) ++ List.replicate (N - (i + 1)) 0 := by
        have hl1 : (mulL a (xs.take i)).length = i := by simp [mulL]; omega
        rw [take_snoc he, mulL_snoc, List.set_append_right _ _ (by omega), hl1, Nat.sub_self, show N - i = (N - (i + 1)) + 1 by omega, List.replicate_succ]
        simp
      rw [← hset]
      exact hV.trans (upd_set (by omega) (by omega))
    · have hiy : i = xs.length := by omega
      subst hiy
      rw [List.take_length] at hV hOw hZl
      obtain ⟨Z, hZ⟩ : ∃ Z, Z = mulL a xs ++ List.replicate (N - xs.length) (0 : Int) := ⟨_, rfl⟩
      rw [← hZ] at hV hOw hZl
      have hZv : val Z = a * val xs := by rw [hZ, val_append, mulL_val, val_zeros]; omega
      have hZb : ∀ z ∈ Z, -10000000000000000 ≤ z ∧ z ≤ 10000000000000000 := by
        intro z hz
        rw [hZ] at hz
        rcases List.mem_append.1 hz with h | h
        · obtain ⟨e, he, rfl⟩ := List.mem_map.1 h
          have heB := hxs e he
          have := mul_bd (a := a) (b := e) (m := 100000000) (n := 100000000) (by omega) (by omega)
          omega
        · have := (List.mem_replicate.1 h).2; omega
      clear hZ
      refine ⟨_, len_sl hT (v := y) rfl hy, ?_⟩
      refine ⟨fun m s => ∃ (i : Nat) (n : Int) (H2 : Heap) (T : List AV),
        s = ⟨T, H2, []⟩ ∧ T.length = 54 ∧ T.getD 2 undefA = iv b ∧ T.getD 9 undefA = .sl H.n 0 N N ∧ T.getD 35 undefA = y ∧ T.getD 36 undefA = iv ys.length ∧ T.getD 37 undefA = iv n ∧ m = ys.length - i ∧ n = i ∧ i ≤ ys.length ∧ Upd H' H.n (.cells true 3 (ints (addL b Z (ys.take i)))) H2, ⟨ys.length, ?_⟩, ?_⟩
      · exact ⟨0, _, H', _, rfl, rfl, rfl, rfl, rfl, rfl, rfl, rfl, rfl, Nat.zero_le _, Upd.refl (by rw [List.take_zero, addL_nil]; exact hV.at_)⟩
      · rintro m s ⟨i, n, H2, T, rfl, hTl, h2t, h9t, h35t, h36t, h37t, hm', rfl, hi, hW⟩
        obtain ⟨J', rfl⟩ : ∃ J : Nat → AV, T = [J 0, J 1, iv b, J 3, J 4, J 5, J 6, J 7, J 8, .sl H.n 0 N N, J 10, J 11, J 12, J 13, J 14, J 15, J 16, J 17, J 18, J 19, J 20, J 21, J 22, J 23, J 24, J 25, J 26, J 27, J 28, J 29, J 30, J 31, J 32, J 33, J 34, y, iv ys.length, iv i, J 38, J 39, J 40, J 41, J 42, J 43, J 44, J 45, J 46, J 47, J 48, J 49, J 50, J 51, J 52, J 53] := ⟨fun i => T.getD i undefA, (ex54 T hTl).trans (by rw [h2t, h9t, h35t, h36t, h37t])⟩
        clear hTl h2t h9t h35t h36t h37t
        have hk2 : ∀ A, A < H.n → H2.get A = H.get A := fun A hA => by rw [hW.other A (by omega)]; exact hk A hA
        have hn2 : H2.n = H.n + 1 := by rw [hW.n]; exact hn'
        have hOw2 : Ow H2 (.sl H.n 0 N N) H.n (addL b Z (ys.take i)) N := ⟨hW.at_, by rw [addL_length]; omega, .inl ⟨N, rfl, by omega, by rw [addL_length]; omega⟩⟩
        refine ⟨fun hlt => ?_, fun hge2 => ?_⟩
        · obtain ⟨e, he⟩ : ∃ e, ys[i]? = some e := ⟨ys[i]'(by omega), List.getElem?_eq_getElem _⟩
          obtain ⟨z, hz⟩ : ∃ z, Z[i]? = some z := ⟨Z[i]'(by omega), List.getElem?_eq_getElem _⟩
          have heB := hys e (List.mem_of_getElem? he)
          have hzB := hZb z (List.mem_of_getElem? hz)
          have hfe := mul_bd (a := b) (b := e) (m := 100000000) (n := 100000000) (by omega) (by omega)
          have hgz : (addL b Z (ys.take i))[i]? = some z := addL_get b i Z (ys.take i) z hz (by simp; omega)
          refine ⟨_, idx_sl hT (v := y) (n := i) rfl rfl (hy.mono hk2) rfl (by omega), ?_⟩
          refine ⟨_, load_sl hT (hy.mono hk2) he, ?_⟩
          refine ⟨_, idx_sl hT (v := .sl H.n 0 N N) (n := i) rfl rfl hOw2.sl rfl (by simp [addL_length]; omega), ?_⟩
          refine ⟨_, load_sl hT hOw2.sl (x := z) (by rw [List.getElem?_take, if_pos (by omega)]; exact hgz), ?_⟩
          refine ⟨⟨by omega, by omega⟩, ?_⟩
          refine ⟨⟨by omega, by omega⟩, ?_⟩
          refine ⟨_, idx_sl hT (v := .sl H.n 0 N N) (n := i) rfl rfl hOw2.sl rfl (by simp [addL_length]; omega), ?_⟩
          refine ⟨_, store_ow hT hOw2 (by omega), ?_⟩
          refine ⟨⟨by omega, by omega⟩, ?_⟩
          refine ⟨ys.length - (i + 1), by omega, i + 1, _, _, _, rfl, rfl, rfl, rfl, rfl, rfl, rfl, rfl, rfl, by omega, ?_⟩
          rw [take_snoc he, addL_snoc b (ys.take i) Z e z (by rw [List.length_take, Nat.min_eq_left (by omega)]; exact hz), List.length_take, Nat.min_eq_left (by omega)]
          exact hW.trans (upd_set (by omega) (by omega))
        · have hiy : i = ys.length := by omega
          subst hiy
          rw [List.take_length] at hW hOw2
          have hM2 : Mine H H.n (.sl H.n 0 N N) ((addL b Z ys).take N) H2 := Mine.fresh_refl (by omega) hk2 hOw2 (Nat.le_refl _)
          rw [List.take_of_length_le (by rw [addL_length]; omega)] at hM2
          refine (settle_old S hS.o (by omega) (by rw [addL_length]; omega) hM2 ?_).mono ?_
          · have key : ∀ (zs us : List Int), (∀ z ∈ zs, -10000000000000000 ≤ z ∧ z ≤ 10000000000000000) → Sml us → ∀ w ∈ addL b zs us, -20000000000000000 ≤ w ∧ w ≤ 20000000000000000 := by
              intro zs
              induction zs with
              | nil => intro us _ _ w hw; cases us <;> cases hw
              | cons z zs ih =>
                intro us hz hu w hw
                cases us with
                | nil =>
                  rw [addL_nil] at hw
                  have := hz w hw
                  omega
                | cons u us =>
                  simp only [addL, List.mem_cons] at hw
                  rcases hw with rfl | hw
                  · have h1 := hz z (by simp)
                    have h2 := hu u (by simp)
                    have := mul_bd (a := b) (b := u) (m := 100000000) (n := 100000000) (by omega) (by omega)
                    omega
                  · exact ih us (fun a ha => hz a (by simp [ha])) (fun a ha => hu a (by simp [ha])) w hw
            intro w hw
            have := key Z ys hZb hys w hw
            exact ⟨by omega, by omega⟩
          · rintro r H3 ⟨h1, h2⟩
            rw [addL_val b Z ys (by omega), hZv] at h1
            have h3 : Mine H H.n r (digits (a * val xs + b * val ys)) H3 ∧ H3.n ≤ H.n + 8 := ⟨h1, by omega⟩
            exact h3
end Go.PI

/- euclid. -/
open Go.Proofs
namespace Go.PI
open IM
theorem fn187 : ctx.fn 187 = some c187 := by kernel_rfl
set_option maxRecDepth 10000
set_option maxHeartbeats 4000000
variable (S : FuncId → Option (List AV → Heap → Option (AV × Heap)))
theorem ex81 (T : List AV) (h : T.length = 81) : T = [T.getD 0 undefA, T.getD 1 undefA, T.getD 2 undefA, T.getD 3 undefA, T.getD 4 undefA, T.getD 5 undefA, T.getD 6 undefA, T.getD 7 undefA, T.getD 8 undefA, T.getD 9 undefA, T.getD 10 undefA, T.getD 11 undefA, T.getD 12 undefA, T.getD 13 undefA, T.getD 14 undefA, T.getD 15 undefA, T.getD 16 undefA, T.getD 17 undefA, T.getD 18 undefA, T.getD 19 undefA, T.getD 20 undefA, T.getD 21 undefA, T.getD 22 undefA, T.getD 23 undefA, T.getD 24 undefA, T.getD 25 undefA, T.getD 26 undefA, T.getD 27 undefA, T.getD 28 undefA, T.getD 29 undefA, T.getD 30 undefA, T.getD 31 undefA, T.getD 32 undefA, T.getD 33 undefA, T.getD 34 undefA, T.getD 35 undefA, T.getD 36 undefA, T.getD 37 undefA, T.getD 38 undefA, T.getD 39 undefA, T.getD 40 undefA, T.getD 41 undefA, T.getD 42 undefA, T.getD 43 undefA, T.getD 44 undefA, T.getD 45 undefA, T.getD 46 undefA, T.getD 47 undefA, T.getD 48 undefA, T.getD 49 undefA, T.getD 50 undefA, T.getD 51 undefA, T.getD 52 undefA, T.getD 53 undefA, T.getD 54 undefA, T.getD 55 undefA, T.getD 56 undefA, T.getD 57 undefA, T.getD 58 undefA, T.getD 59 undefA, T.getD 60 undefA, T.getD 61 undefA, T.getD 62 undefA, T.getD 63 undefA, T.getD 64 undefA, T.getD 65 undefA, T.getD 66 undefA, T.getD 67 undefA, T.getD 68 undefA, T.getD 69 undefA, T.getD 70 undefA, T.getD 71 undefA, T.getD 72 undefA, T.getD 73 undefA, T.getD 74 undefA, T.getD 75 undefA, T.getD 76 undefA, T.getD 77 undefA, T.getD 78 undefA, T.getD 79 undefA, T.getD 80 undefA] := by
  have := expand T
  rw [h] at this
  exact this
theorem max_four {C : Ctx} {ρ : Operand → Option AV} {x y z w : Operand} {ts : Array TypeId} {a b c d : Int} (hx : ρ x = some (iv a)) (hy : ρ y = some (iv b)) (hz : ρ z = some (iv c)) (hw : ρ w = some (iv d)) :
    ∃ m, pureE C ρ (.call { callee := .builtin .max, args := #[x, y, z, w], argTypes := ts }) = some (iv m) ∧ a ≤ m ∧ b ≤ m ∧ c ≤ m ∧ d ≤ m := by
  simp only [pureE, opds, hx, hy, hz, hw, builtinP, foldMinMax]
  simp only [if_true]
  refine ⟨_, rfl, ?_, ?_, ?_, ?_⟩ <;> (repeat' split) <;> omega
/-- what steps have made of X and Y -/
structure Euc (X Y a b c d : Int) : Prop where
  lt : 0 ≤ c * X + d * Y ∧ c * X + d * Y < a * X + b * Y
  le : a * X + b * Y ≤ X
  half : 2 * ((a * X + b * Y) * (c * X + d * Y)) ≤ X * Y
  g : ∀ k : Int, (k ∣ a * X + b * Y ∧ k ∣ c * X + d * Y) ↔ (k ∣ X ∧ k ∣ Y)
  ha : -100000000 ≤ a ∧ a ≤ 100000000
  hb : -100000000 ≤ b ∧ b ≤ 100000000
  hc : -100000000 ≤ c ∧ c ≤ 100000000
  hd : -100000000 ≤ d ∧ d ≤ 100000000
theorem euclid_run (hS : OldI S) {H : Heap} {x y : AV} {xs ys : List Int} (hn : H.n + 40 < lim) (hx : Sl H x xs) (hy : Sl H y ys) (cx : Cp x) (cy : Cp y) (hxl : xs.length ≤ 1000000) (h3 : 2 < xs.length) (hyx : ys.length ≤ xs.length) (hy0 : ys ≠ []) (dx : Dig xs) (dy : Dig ys) (hle : val ys ≤ val xs) :
    Cl (ctx.plus S) 187 [x, y] H fun r H' => ∃ a b c d, r = .tup [iv a, iv b, iv c, iv d] ∧ (b ≠ 0 → Euc (val xs) (val ys) a b c d) ∧ Kp H H' 20 := by
  refine cl_of hS.h187 fn187 ?_
  have hT : (ctx.plus S).ty = tget := rfl
  refine ⟨_, len_sl hT (v := x) rfl hx, ?_⟩
  refine (leading_run S hS (x := x) (xs := xs) (N := xs.length) (by omega) hx cx (by omega) (Nat.le_refl _) hxl dx (by intro h; subst h; simp at h3)).mono ?_
  rintro _ H1 ⟨rfl, k1⟩
  have k1m := k1.m
  refine ⟨_, len_sl hT (v := x) rfl hx, ?_⟩
  refine (leading_run S hS (H := H1) (x := y) (xs := ys) (N := xs.length) (by omega) (hy.kp k1) cy (by omega) hyx hxl dy hy0).mono ?_
  rintro _ H2 ⟨rfl, k2⟩
  obtain ⟨tX, x1, x2, x3⟩ := lead_val (N := xs.length) dx
  obtain ⟨tY, y1, y2, y3⟩ := lead_val (N := xs.length) dy
  have sU := lead_small (N := xs.length) dx (Nat.le_refl _) (by omega)
  have sV := lead_small (N := xs.length) dy hyx (by omega)
  obtain ⟨U, hU⟩ : ∃ U, val (xs.drop (min (xs.length - 2) xs.length)) = U := ⟨_, rfl⟩
  obtain ⟨V, hV⟩ : ∃ V, val (ys.drop (min (xs.length - 2) ys.length)) = V := ⟨_, rfl⟩
  rw [hU] at x3 sU ⊢
  rw [hV] at y3 sV ⊢
  have hP := pw_pos (xs.length - 2)
  obtain ⟨P, hPe⟩ : ∃ P, pw (xs.length - 2) = P := ⟨_, rfl⟩
  rw [hPe] at x2 x3 y2 y3 hP
  have L0 := leh_start hP ⟨x1, x2⟩ ⟨y1, y2⟩ sU sV (by rw [← x3, ← y3]; exact hle)
  have k12 : Kp H H2 20 := k1.trans k2 (Nat.le_refl _)
  have hx0 := dx.val.1
  have hy00 := dy.val.1
  rw [x3, y3]
  rw [x3] at hle hx0
  rw [y3] at hle hy00
  have fin : ∀ a b c d : Int, (b ≠ 0 → Euc (tX + P * U) (tY + P * V) a b c d) → ∃ a' b' c' d', AV.tup [iv a, iv b, iv c, iv d] = .tup [iv a', iv b', iv c', iv d'] ∧ (b' ≠ 0 → Euc (tX + P * U) (tY + P * V) a' b' c' d') ∧ Kp H H2 20 :=
    fun a b c d h => ⟨a, b, c, d, rfl, h, k12⟩
  refine ⟨fun m s => ∃ (a b c d u v : Int) (T : List AV),
    s = ⟨T, H2, []⟩ ∧ T.length = 81 ∧ T.getD 4 undefA = iv a ∧ T.getD 5 undefA = iv b ∧ T.getD 6 undefA = iv c ∧ T.getD 7 undefA = iv d ∧ T.getD 8 undefA = iv u ∧ T.getD 9 undefA = iv v ∧ m = (c * (tX + P * U) + d * (tY + P * V)).toNat ∧ Leh P tX tY U V a b c d u v ∧ a * (tX + P * U) + b * (tY + P * V) ≤ tX + P * U, ⟨(0 * (tX + P * U) + 1 * (tY + P * V)).toNat, ?_⟩, ?_⟩
  · exact ⟨1, 0, 0, 1, U, V, _, rfl, rfl, rfl, rfl, rfl, rfl, rfl, rfl, rfl, L0, by omega⟩
  · rintro m s ⟨a, b, c, d, u, v, T, rfl, hTl, h4t, h5t, h6t, h7t, h8t, h9t, hm, L, hXle⟩
    obtain ⟨J, rfl⟩ : ∃ J : Nat → AV, T = [J 0, J 1, J 2, J 3, iv a, iv b, iv c, iv d, iv u, iv v, J 10, J 11, J 12, J 13, J 14, J 15, J 16, J 17, J 18, J 19, J 20, J 21, J 22, J 23, J 24, J 25, J 26, J 27, J 28, J 29, J 30, J 31, J 32, J 33, J 34, J 35, J 36, J 37, J 38, J 39, J 40, J 41, J 42, J 43, J 44, J 45, J 46, J 47, J 48, J 49, J 50, J 51, J 52, J 53, J 54, J 55, J 56, J 57, J 58, J 59, J 60, J 61, J 62, J 63, J 64, J 65, J 66, J 67, J 68, J 69, J 70, J 71, J 72, J 73, J 74, J 75, J 76, J 77, J 78, J 79, J 80] := ⟨fun i => T.getD i undefA, (ex81 T hTl).trans (by rw [h4t, h5t, h6t, h7t, h8t, h9t])⟩
    clear hTl h4t h5t h6t h7t h8t h9t
    have post : b ≠ 0 → Euc (tX + P * U) (tY + P * V) a b c d := fun hb => by
      rcases L.hpr with ⟨-, h, -⟩ | ⟨h1, h2⟩
      · exact absurd h hb
      · exact ⟨⟨L.hXY.1, h2⟩, hXle, h1, L.hg, L.ha, L.hb, L.hc, L.hd⟩
    have la := L.ha; have lb := L.hb; have lc := L.hc; have ld := L.hd; have lu := L.hu2; have lw := L.hv2; have lk := L.hk
    refine ⟨⟨by omega, by omega⟩, ?_⟩
    refine ⟨fun n1 => ?_, fun n1 => ?_⟩
    · refine ⟨⟨by omega, by omega⟩, ?_⟩
      refine ⟨fun n2 => ?_, fun n2 => ?_⟩
      · obtain ⟨e1, -, e3, e4, e5, e6⟩ := qr (m := u + a) (d := v + c) lk.1 (by omega)
        obtain ⟨f1, -, f3, f4, f5, f6⟩ := qr (m := u + b) (d := v + d) lk.2.1 (by omega)
        obtain ⟨q, hq⟩ : ∃ q, (u + a).tdiv (v + c) = q := ⟨_, rfl⟩
        obtain ⟨q', hq'⟩ : ∃ q, (u + b).tdiv (v + d) = q := ⟨_, rfl⟩
        rw [hq] at e1
        rw [← e1] at e3 e6
        rw [hq'] at f1
        rw [← f1] at f3 f6
        have g1 : q * (v + c) ≤ u + a := by rw [Int.mul_comm]; omega
        have g1' : u + a + 1 ≤ (q + 1) * (v + c) := by rw [Int.add_mul, Int.mul_comm q]; omega
        have hqu : q ≤ u + a := by
          have : q * 1 ≤ q * (v + c) := Int.mul_le_mul_of_nonneg_left (by omega) e6
          omega
        have hqu' : q' ≤ u + b := by
          have h1 : q' * 1 ≤ q' * (v + d) := Int.mul_le_mul_of_nonneg_left (by omega) f6
          have h2 : q' * (v + d) = (v + d) * q' := Int.mul_comm _ _
          omega
        obtain ⟨s1, s2, s3, s4, s5, s6⟩ := L.small e6 hqu g1
        refine ⟨⟨by omega, by omega⟩, ?_⟩
        refine ⟨⟨by omega, by omega⟩, ?_⟩
        refine ⟨⟨n1, by rw [hq]; unfold In64; omega⟩, ?_⟩
        refine ⟨by rw [hq]; unfold In64; omega, ?_⟩
        refine ⟨by rw [hq]; unfold In64; omega, ?_⟩
        refine ⟨by rw [hq]; unfold In64; omega, ?_⟩
        refine ⟨by rw [hq]; unfold In64; omega, ?_⟩
        refine ⟨⟨by omega, by omega⟩, ?_⟩
        refine ⟨⟨by omega, by omega⟩, ?_⟩
        refine ⟨⟨n2, by rw [hq']; unfold In64; omega⟩, ?_⟩
        refine ⟨fun hne => ?_, fun heq => ?_⟩
        · exact fin a b c d post
        · rw [hq, hq'] at heq
          refine ⟨by rw [hq]; unfold In64; omega, ?_⟩
          refine ⟨by rw [hq]; unfold In64; omega, ?_⟩
          obtain ⟨mx, hmx, m1, m2, m3, m4⟩ := max_four (C := ctx.plus S) (ρ := fun o => match o with | .tmp 58 => some (iv (a - (u + a).tdiv (v + c) * c)) | .tmp 60 => some (iv (0 - (a - (u + a).tdiv (v + c) * c))) | .tmp 61 => some (iv (b - (u + a).tdiv (v + c) * d)) | _ => some (iv (0 - (b - (u + a).tdiv (v + c) * d)))) (x := .tmp 58) (y := .tmp 60) (z := .tmp 61) (w := .tmp 63) (ts := #[3, 3, 3, 3]) rfl rfl rfl rfl
          refine ⟨_, hmx, ?_⟩
          refine ⟨fun hgt => ?_, fun hle2 => ?_⟩
          · exact fin a b c d post
          · rw [hq] at m1 m2 m3 m4
            subst heq
            have g2 : q * (v + d) ≤ u + b := by rw [Int.mul_comm]; omega
            have g2' : u + b + 1 ≤ (q + 1) * (v + d) := by rw [Int.add_mul, Int.mul_comm q]; omega
            obtain ⟨L', hlt⟩ := L.step e6 g1 g1' g2 g2' ⟨by omega, by omega⟩ ⟨by omega, by omega⟩
            refine ⟨by rw [hq]; unfold In64; omega, ?_⟩
            refine ⟨by rw [hq]; unfold In64; omega, ?_⟩
            have hX := L.hXY
            have hX' := L'.hXY
            refine ⟨((a - q * c) * (tX + P * U) + (b - q * d) * (tY + P * V)).toNat, by omega, c, d, a - q * c, b - q * d, v, u - q * v, _, rfl, by rfl, rfl, rfl, by rw [← hq]; rfl, by rw [← hq]; rfl, rfl, by rw [← hq]; rfl, rfl, L', by omega⟩
      · exact fin a b c d post
    · exact fin a b c d post
end Go.PI

/- gcd. -/
open Go.Proofs
namespace Go.PI
open IM
theorem fn118 : ctx.fn 118 = some c118 := by kernel_rfl
set_option maxRecDepth 10000
set_option maxHeartbeats 4000000
variable (S : FuncId → Option (List AV → Heap → Option (AV × Heap)))
theorem ex70 (T : List AV) (h : T.length = 70) : T = [T.getD 0 undefA, T.getD 1 undefA, T.getD 2 undefA, T.getD 3 undefA, T.getD 4 undefA, T.getD 5 undefA, T.getD 6 undefA, T.getD 7 undefA, T.getD 8 undefA, T.getD 9 undefA, T.getD 10 undefA, T.getD 11 undefA, T.getD 12 undefA, T.getD 13 undefA, T.getD 14 undefA, T.getD 15 undefA, T.getD 16 undefA, T.getD 17 undefA, T.getD 18 undefA, T.getD 19 undefA, T.getD 20 undefA, T.getD 21 undefA, T.getD 22 undefA, T.getD 23 undefA, T.getD 24 undefA, T.getD 25 undefA, T.getD 26 undefA, T.getD 27 undefA, T.getD 28 undefA, T.getD 29 undefA, T.getD 30 undefA, T.getD 31 undefA, T.getD 32 undefA, T.getD 33 undefA, T.getD 34 undefA, T.getD 35 undefA, T.getD 36 undefA, T.getD 37 undefA, T.getD 38 undefA, T.getD 39 undefA, T.getD 40 undefA, T.getD 41 undefA, T.getD 42 undefA, T.getD 43 undefA, T.getD 44 undefA, T.getD 45 undefA, T.getD 46 undefA, T.getD 47 undefA, T.getD 48 undefA, T.getD 49 undefA, T.getD 50 undefA, T.getD 51 undefA, T.getD 52 undefA, T.getD 53 undefA, T.getD 54 undefA, T.getD 55 undefA, T.getD 56 undefA, T.getD 57 undefA, T.getD 58 undefA, T.getD 59 undefA, T.getD 60 undefA, T.getD 61 undefA, T.getD 62 undefA, T.getD 63 undefA, T.getD 64 undefA, T.getD 65 undefA, T.getD 66 undefA, T.getD 67 undefA, T.getD 68 undefA, T.getD 69 undefA] := by
  have := expand T
  rw [h] at this
  exact this
theorem gcd_of {G X Y : Int} (h0 : 0 ≤ G) (h : ∀ k : Int, k ∣ G ↔ (k ∣ X ∧ k ∣ Y)) : (Int.gcd X Y : Int) = G := by
  have h1 : G ∣ (Int.gcd X Y : Int) := by
    have := (h G).1 (Int.dvd_refl G)
    exact Int.dvd_coe_gcd this.1 this.2
  have h2 : (Int.gcd X Y : Int) ∣ G := (h _).2 ⟨Int.gcd_dvd_left X Y, Int.gcd_dvd_right X Y⟩
  have h3 : 0 ≤ (Int.gcd X Y : Int) := Int.natCast_nonneg _
  exact Int.dvd_antisymm h3 h0 h2 h1
theorem pw_two (n : Nat) : pw n ≤ (2:Int) ^ (27 * n) := by
  induction n with
  | zero => decide
  | succ n ih =>
    rw [pw_succ, Nat.mul_add, Int.pow_add]
    have e : (2:Int) ^ (27 * 1) = 134217728 := by decide
    rw [e]
    have := pw_pos n
    omega
theorem nat_dvd {k X : Int} : k ∣ (X.natAbs : Int) ↔ k ∣ X := Int.dvd_natAbs
theorem size_kpc (hS : OldI S) {H : Heap} {x : AV} {xs : List Int} (hn : H.n + 20 < lim) (hx : Sl H x xs) (hc : Cp x) (hl : xs.length ≤ 1000000) (nx : Nrm xs) :
    Cl (ctx.plus S) 186 [x] H fun r H' => Sl H' r (digits ((val xs).natAbs : Int)) ∧ Cp r ∧ Kp H H' 8 := by
  have hs := nx.sml'
  obtain ⟨a1, a2⟩ := abs_digits nx
  refine (size_run2 S hS.h186 hS.o.h125 hS.h127 (by omega) hx hl (fun e he => by have := hs e he; unfold In64; omega)).mono ?_
  rintro r H' ⟨h, hm⟩
  split at h
  · rename_i hs
    rw [a1 hs] at h
    exact ⟨h.toSl, h.cp, h.kp hm⟩
  · rename_i hs
    obtain ⟨rfl, rfl⟩ := h
    rw [← a2 hs]
    exact ⟨hx, hc, Kp.refl _ _⟩
theorem mod_half {X Y : Int} (hY : 0 < Y) (hle : Y ≤ X) : 0 ≤ X % Y ∧ X % Y < Y ∧ 2 * (Y * (X % Y)) ≤ X * Y ∧ ∀ k : Int, (k ∣ Y ∧ k ∣ X % Y) ↔ (k ∣ X ∧ k ∣ Y) := by
  have e1 := Int.mul_ediv_add_emod X Y
  have e2 := Int.emod_nonneg X (show Y ≠ 0 by omega)
  have e3 := Int.emod_lt_of_pos X hY
  refine ⟨e2, e3, ?_, fun k => ⟨fun h => ⟨?_, h.1⟩, fun h => ⟨h.2, ?_⟩⟩⟩
  · have hq : 1 ≤ X / Y := by
      rcases ilt_or (X / Y) 1 with h | h
      · exfalso
        have : Y * (X / Y) ≤ Y * 0 := Int.mul_le_mul_of_nonneg_left (by omega) (by omega)
        omega
      · exact h
    have h1 : Y * 1 ≤ Y * (X / Y) := Int.mul_le_mul_of_nonneg_left hq (by omega)
    have h2 : Y * (2 * (X % Y)) ≤ Y * X := Int.mul_le_mul_of_nonneg_left (by omega) (by omega)
    rw [Int.mul_comm X Y]
    have h3 : 2 * (Y * (X % Y)) = Y * (2 * (X % Y)) := by grind
    omega
  · rw [← e1]
    exact Int.dvd_add (Int.dvd_mul_of_dvd_left h.1) h.2
  · have h2 : X % Y = X - Y * (X / Y) := by omega
    rw [h2]
    exact Int.dvd_sub h.1 (Int.dvd_mul_of_dvd_left h.2)
theorem dig_digits {v : Int} (h : 0 ≤ v) : Dig (digits v) := nrm_pos (nrm_digits v) (by rw [val_digits]; exact h)
theorem gcd_run (hS : OldI S) {H : Heap} {x y : AV} {xs ys : List Int} (hn : H.n + 3000 * (xs.length + ys.length) + 1000 < lim) (hx : Sl H x xs) (hy : Sl H y ys) (cx : Cp x) (cy : Cp y) (hxl : xs.length ≤ 400000) (hyl : ys.length ≤ 400000) (nx : Nrm xs) (ny : Nrm ys) :
    Cl (ctx.plus S) 118 [x, y] H fun r H' => Sl H' r (digits (Int.gcd (val xs) (val ys) : Int)) ∧ Kp H H' (3000 * (xs.length + ys.length) + 500) := by
  refine cl_of hS.h118 fn118 ?_
  have hT : (ctx.plus S).ty = tget := rfl
  obtain ⟨X, hX⟩ : ∃ X : Int, ((val xs).natAbs : Int) = X := ⟨_, rfl⟩
  obtain ⟨Y, hY⟩ : ∃ Y : Int, ((val ys).natAbs : Int) = Y := ⟨_, rfl⟩
  have lX := abs_len nx
  have lY := abs_len ny
  rw [hX] at lX
  rw [hY] at lY
  have hX0 : 0 ≤ X := by omega
  have hY0 : 0 ≤ Y := by omega
  obtain ⟨E, hE⟩ : ∃ E, E = 27 * (xs.length + ys.length) := ⟨_, rfl⟩
  have hXY : X * Y < 2 ^ E := by
    have a1 := (dig_digits hX0).val.2
    have a2 := (dig_digits hY0).val.2
    rw [val_digits] at a1 a2
    rw [lX] at a1
    rw [lY] at a2
    have p1 := pw_pos xs.length
    have p2 := pw_pos ys.length
    have b1 : X * Y ≤ X * pw ys.length := Int.mul_le_mul_of_nonneg_left (by omega) hX0
    have b2 : X * pw ys.length < pw xs.length * pw ys.length := Int.mul_lt_mul_of_pos_right a1 p2
    rw [← pw_add] at b2
    have b3 := pw_two (xs.length + ys.length)
    rw [← hE] at b3
    omega
  obtain ⟨M, hM⟩ : ∃ M, M = max X Y := ⟨_, rfl⟩
  have lM : (digits M).length ≤ xs.length + ys.length := by
    rcases (show M = X ∨ M = Y by omega) with h | h <;> rw [h] <;> omega
  have hdv : ∀ k : Int, (k ∣ X ∧ k ∣ Y) ↔ (k ∣ val xs ∧ k ∣ val ys) := fun k => by rw [← hX, ← hY, nat_dvd, nat_dvd]
  refine (size_kpc S hS (x := x) (by omega) hx cx (by omega) nx).mono ?_
  rw [hX]
  rintro a H1 ⟨ha, ca, k1⟩
  have k1m := k1.m
  refine (size_kpc S hS (H := H1) (x := y) (by omega) (hy.kp k1) cy (by omega) ny).mono ?_
  rw [hY]
  rintro b H2 ⟨hb, cb, k2⟩
  have k2m := k2.m
  refine (compare_run S hS.h107 hS.o.h125 hS.h181 hS.h227 hS.h182 hS.h228 (H := H2) (x := a) (y := b) (by omega) (ha.kp k2) hb (by omega) (by omega) (nrm_digits _) (nrm_digits _)).mono ?_
  rw [val_digits, val_digits]
  rintro _ H3 ⟨rfl, k3⟩
  have k3m := k3.m
  have k123 : Kp H H3 60 := k1.trans (k2.trans k3 (Nat.le_refl _)) (by omega)
  have start : ∃ x1 y1 X1 Y1, (cmpI X Y < 0 → x1 = b ∧ y1 = a) ∧ (0 ≤ cmpI X Y → x1 = a ∧ y1 = b) ∧ Sl H3 x1 (digits X1) ∧ Cp x1 ∧ Sl H3 y1 (digits Y1) ∧ Cp y1 ∧ 0 ≤ Y1 ∧ Y1 ≤ X1 ∧ X1 ≤ M ∧ X1 * Y1 < 2 ^ E ∧ (∀ k : Int, (k ∣ X1 ∧ k ∣ Y1) ↔ (k ∣ val xs ∧ k ∣ val ys)) := by
    by_cases h : X < Y
    · have hc : cmpI X Y = -1 := by unfold cmpI; rw [if_pos h]
      refine ⟨b, a, Y, X, fun _ => ⟨rfl, rfl⟩, fun h' => by omega, hb.kp k3, cb, (ha.kp k2).kp k3, ca, hX0, by omega, by omega, by rw [Int.mul_comm]; exact hXY, fun k => ?_⟩
      rw [← hdv k]
      exact ⟨fun h => ⟨h.2, h.1⟩, fun h => ⟨h.2, h.1⟩⟩
    · have hc : 0 ≤ cmpI X Y := by unfold cmpI; rw [if_neg h]; split <;> decide
      exact ⟨a, b, X, Y, fun h' => by omega, fun _ => ⟨rfl, rfl⟩, (ha.kp k2).kp k3, ca, hb.kp k3, cb, hY0, by omega, by omega, hXY, hdv⟩
  obtain ⟨x1, y1, X1, Y1, st1, st2, s3, s4, s5, s6, s7, s8, s9, s10, s11⟩ := start
  refine ⟨fun hc => ?_, fun hc => ?_⟩
  · have st := st1 hc
    refine ⟨fun m s => ∃ (e : Nat) (X1 Y1 : Int) (x1 y1 : AV) (H4 : Heap) (T : List AV),
      s = ⟨T, H4, []⟩ ∧ T.length = 70 ∧ T.getD 0 undefA = x1 ∧ T.getD 1 undefA = y1 ∧ m = e ∧ e ≤ E ∧ Sl H4 x1 (digits X1) ∧ Cp x1 ∧ Sl H4 y1 (digits Y1) ∧ Cp y1 ∧ 0 ≤ Y1 ∧ Y1 ≤ X1 ∧ X1 ≤ M ∧ X1 * Y1 < 2 ^ e ∧ (∀ k : Int, (k ∣ X1 ∧ k ∣ Y1) ↔ (k ∣ val xs ∧ k ∣ val ys)) ∧ Kp H H4 (60 + 80 * (E - e)), ⟨E, ?_⟩, ?_⟩
    · exact ⟨E, X1, Y1, x1, y1, H3, _, rfl, rfl, st.1.symm, st.2.symm, rfl, Nat.le_refl _, s3, s4, s5, s6, s7, s8, s9, s10, s11, k123.le (by omega)⟩
    · clear s3 s4 s5 s6 s7 s8 s9 s10 s11 st st1 st2 X1 Y1 x1 y1
      rintro e s ⟨e0, X1, Y1, x1, y1, H4, T, rfl, hTl, h0t, h1t, rfl, he, s3, s4, s5, s6, s7, s8, s9, s10, s11, k4⟩
      obtain ⟨J, rfl⟩ : ∃ J : Nat → AV, T = [x1, y1, J 2, J 3, J 4, J 5, J 6, J 7, J 8, J 9, J 10, J 11, J 12, J 13, J 14, J 15, J 16, J 17, J 18, J 19, J 20, J 21, J 22, J 23, J 24, J 25, J 26, J 27, J 28, J 29, J 30, J 31, J 32, J 33, J 34, J 35, J 36, J 37, J 38, J 39, J 40, J 41, J 42, J 43, J 44, J 45, J 46, J 47, J 48, J 49, J 50, J 51, J 52, J 53, J 54, J 55, J 56, J 57, J 58, J 59, J 60, J 61, J 62, J 63, J 64, J 65, J 66, J 67, J 68, J 69] := ⟨fun i => T.getD i undefA, (ex70 T hTl).trans (by rw [h0t, h1t])⟩
      clear hTl h0t h1t
      have k4m := k4.m
      have dX1 := dig_digits (show 0 ≤ X1 by omega)
      have dY1 := dig_digits s7
      have l1 : (digits X1).length ≤ xs.length + ys.length := Nat.le_trans (digits_len_le (by omega) s9) lM
      have l2 : (digits Y1).length ≤ (digits X1).length := digits_len_le s7 s8
      refine ⟨_, len_sl hT (v := x1) rfl s3, ?_⟩
      refine ⟨fun h2 => ?_, fun h2 => ?_⟩
      · refine ⟨_, len_sl hT (v := y1) rfl s5, ?_⟩
        refine ⟨fun h0 => ?_, fun h0 => ?_⟩
        · have hy1 : Y1 = 0 := digits_nil.1 (List.eq_nil_of_length_eq_zero (by omega))
          subst hy1
          have hg := gcd_of (G := X1) (X := val xs) (Y := val ys) (by omega) fun k => by
            rw [← s11 k]; exact ⟨fun h => ⟨h, Int.dvd_zero k⟩, fun h => h.1⟩
          have hfin : Sl H4 x1 (digits (Int.gcd (val xs) (val ys) : Int)) ∧ Kp H H4 (3000 * (xs.length + ys.length) + 500) := ⟨by rw [hg]; exact s3, k4.le (by omega)⟩
          exact hfin
        · have hne : digits Y1 ≠ [] := fun h => h0 (by rw [h]; rfl)
          have hY1 : 0 < Y1 := by
            rcases ilt_or 0 Y1 with h | h
            · exact h
            · exact absurd (by rw [show Y1 = 0 by omega]; rfl) hne
          obtain ⟨e, rfl⟩ : ∃ e', e = e' + 1 := by
            cases e with
            | zero =>
              exfalso
              have : 1 * 1 ≤ X1 * Y1 := Int.mul_le_mul (by omega) (by omega) (by omega) (by omega)
              rw [Int.pow_zero] at s10
              omega
            | succ e => exact ⟨e, rfl⟩
          have hpw : (2:Int) ^ (e + 1) = 2 * 2 ^ e := by rw [Int.pow_succ]; omega
          rw [hpw] at s10
          refine (euclid_run S hS (H := H4) (x := x1) (y := y1) (by omega) s3 s5 s4 s6 (by omega) (by omega) l2 hne dX1 dY1 (by rw [val_digits, val_digits]; exact s8)).mono ?_
          rw [val_digits, val_digits]
          rintro _ H5 ⟨ca', cb', cc', cd', rfl, hE', k5⟩
          have k5m := k5.m
          refine ⟨fun hb0 => ?_, fun hb0 => ?_⟩
          · obtain ⟨q1, q2, q3, q4, q5, q6, q7, q8⟩ := hE' hb0
            refine (mixed_run S hS (H := H5) (x := x1) (y := y1) (by omega) (s3.kp k5) (s5.kp k5) (by omega) (by omega) (nrm_digits _).sml' (nrm_digits _).sml' q5 q6).mono ?_
            rw [val_digits, val_digits]
            rintro r6 H6 ⟨hM6, hn6⟩
            have k6 := hM6.kp hn6
            have k6m := k6.m
            refine (mixed_run S hS (H := H6) (x := x1) (y := y1) (by omega) ((s3.kp k5).kp k6) ((s5.kp k5).kp k6) (by omega) (by omega) (nrm_digits _).sml' (nrm_digits _).sml' q7 q8).mono ?_
            rw [val_digits, val_digits]
            rintro r7 H7 ⟨hM7, hn7⟩
            have k7 := hM7.kp hn7
            refine ⟨e, by omega, e, ca' * X1 + cb' * Y1, cc' * X1 + cd' * Y1, r6, r7, H7, _, rfl, rfl, rfl, rfl, rfl, by omega, hM6.toSl.kp k7, hM6.cp, hM7.toSl, hM7.cp, q1.1, by omega, by omega, by omega, fun k => (q4 k).trans (s11 k), ?_⟩
            exact k4.trans (k5.trans (k6.trans k7 (Nat.le_refl _)) (Nat.le_refl _)) (by omega)
          · refine (quotient_run S hS (H := H5) (x := x1) (y := y1) (by omega) (s3.kp k5) (s5.kp k5) (by omega) (by omega) dX1 (nrm_digits _).2 dY1 (nrm_digits _).2 hne).mono ?_
            rw [val_digits, val_digits]
            rintro _ H6 ⟨r6, r7, rfl, -, ⟨hr7, cr7⟩, k6⟩
            obtain ⟨m1, m2, m3, m4⟩ := mod_half hY1 s8
            refine ⟨e, by omega, e, Y1, X1 % Y1, y1, r7, H6, _, rfl, rfl, rfl, rfl, rfl, by omega, (s5.kp k5).kp k6, s6, hr7, cr7, m1, by omega, by omega, by omega, fun k => (m4 k).trans (s11 k), ?_⟩
            exact k4.trans (k5.trans k6 (Nat.le_refl _)) (by omega)
      · refine (vsmall_run S hS.h108 hS.h182 hS.h228 (H := H4) (x := x1) (by omega) s3 (by omega) (small_in dX1.sml (by omega))).mono ?_
        rw [val_digits]
        rintro _ H5 ⟨rfl, k5⟩
        have k5m := k5.m
        refine (vsmall_run S hS.h108 hS.h182 hS.h228 (H := H5) (x := y1) (by omega) (s5.kp k5) (by omega) (small_in dY1.sml (by omega))).mono ?_
        rw [val_digits]
        rintro _ H6 ⟨rfl, k6⟩
        have k6m := k6.m
        have hXb : X1 < 10000000000000000 := by
          have h1 := dX1.val.2
          rw [val_digits] at h1
          have h2 := pw_mono (show (digits X1).length ≤ 2 by omega)
          have : pw 2 = 10000000000000000 := by decide
          omega
        refine ⟨fun m s => ∃ (p q : Int) (T : List AV), s = ⟨T, H6, []⟩ ∧ T.length = 70 ∧ T.getD 11 undefA = iv p ∧ T.getD 12 undefA = iv q ∧ m = q.toNat ∧ 0 ≤ p ∧ p < 10000000000000000 ∧ 0 ≤ q ∧ q < 10000000000000000 ∧ (∀ k : Int, (k ∣ p ∧ k ∣ q) ↔ (k ∣ val xs ∧ k ∣ val ys)), ⟨Y1.toNat, ?_⟩, ?_⟩
        · exact ⟨X1, Y1, _, rfl, rfl, rfl, rfl, rfl, by omega, hXb, s7, by omega, s11⟩
        · rintro m s ⟨p, q, T, rfl, hTl, h11t, h12t, rfl, t1, t2, t3, t4, t5⟩
          obtain ⟨J', rfl⟩ : ∃ J : Nat → AV, T = [J 0, J 1, J 2, J 3, J 4, J 5, J 6, J 7, J 8, J 9, J 10, iv p, iv q, J 13, J 14, J 15, J 16, J 17, J 18, J 19, J 20, J 21, J 22, J 23, J 24, J 25, J 26, J 27, J 28, J 29, J 30, J 31, J 32, J 33, J 34, J 35, J 36, J 37, J 38, J 39, J 40, J 41, J 42, J 43, J 44, J 45, J 46, J 47, J 48, J 49, J 50, J 51, J 52, J 53, J 54, J 55, J 56, J 57, J 58, J 59, J 60, J 61, J 62, J 63, J 64, J 65, J 66, J 67, J 68, J 69] := ⟨fun i => T.getD i undefA, (ex70 T hTl).trans (by rw [h11t, h12t])⟩
          clear hTl h11t h12t
          refine ⟨fun hq => ?_, fun hq => ?_⟩
          · obtain ⟨-, e2, e3, e4, e5, -⟩ := qr (m := p) (d := q) t1 (by omega)
            refine ⟨hq, ?_⟩
            refine ⟨draw_of2 H6 6 (by kernel_rfl) rfl ?_ ?_ ?_, ?_⟩
            · repeat' (first | exact trivial | refine ⟨trivial, ?_⟩)
            · repeat' (first | exact trivial | refine ⟨fun _ _ => rfl, ?_⟩)
            · repeat' (first | exact trivial | refine ⟨Nat.le_refl _, ?_⟩)
            refine ⟨(p.tmod q).toNat, by omega, q, p.tmod q, _, rfl, rfl, rfl, rfl, rfl, t3, t4, by omega, by omega, fun k => ?_⟩
            rw [← t5 k, e2]
            refine ⟨fun h => ⟨?_, h.1⟩, fun h => ⟨h.2, ?_⟩⟩
            · rw [← e3]; exact Int.dvd_add (Int.dvd_mul_of_dvd_left h.1) h.2
            · have h2 : p % q = p - q * (p / q) := by omega
              rw [h2]; exact Int.dvd_sub h.1 (Int.dvd_mul_of_dvd_left h.2)
          · subst hq
            have hg := gcd_of (G := p) (X := val xs) (Y := val ys) t1 fun k => by
              rw [← t5 k]; exact ⟨fun h => ⟨h, Int.dvd_zero k⟩, fun h => h.1⟩
            refine (of_run2 S hS.o hS.h26 (H := H6) (n := p) (by omega) (by unfold In64; omega)).mono ?_
            rintro r H7 ⟨hM7, hn7⟩
            have k7 := hM7.kp hn7
            have hfin : Sl H7 r (digits (Int.gcd (val xs) (val ys) : Int)) ∧ Kp H H7 (3000 * (xs.length + ys.length) + 500) := ⟨by rw [hg]; exact hM7.toSl, k4.trans (k5.trans (k6.trans k7 (Nat.le_refl _)) (Nat.le_refl _)) (by omega)⟩
            exact hfin
  · have st := st2 hc
    refine ⟨fun m s => ∃ (e : Nat) (X1 Y1 : Int) (x1 y1 : AV) (H4 : Heap) (T : List AV),
      s = ⟨T, H4, []⟩ ∧ T.length = 70 ∧ T.getD 0 undefA = x1 ∧ T.getD 1 undefA = y1 ∧ m = e ∧ e ≤ E ∧ Sl H4 x1 (digits X1) ∧ Cp x1 ∧ Sl H4 y1 (digits Y1) ∧ Cp y1 ∧ 0 ≤ Y1 ∧ Y1 ≤ X1 ∧ X1 ≤ M ∧ X1 * Y1 < 2 ^ e ∧ (∀ k : Int, (k ∣ X1 ∧ k ∣ Y1) ↔ (k ∣ val xs ∧ k ∣ val ys)) ∧ Kp H H4 (60 + 80 * (E - e)), ⟨E, ?_⟩, ?_⟩
    · exact ⟨E, X1, Y1, x1, y1, H3, _, rfl, rfl, st.1.symm, st.2.symm, rfl, Nat.le_refl _, s3, s4, s5, s6, s7, s8, s9, s10, s11, k123.le (by omega)⟩
    · clear s3 s4 s5 s6 s7 s8 s9 s10 s11 st st1 st2 X1 Y1 x1 y1
      rintro e s ⟨e0, X1, Y1, x1, y1, H4, T, rfl, hTl, h0t, h1t, rfl, he, s3, s4, s5, s6, s7, s8, s9, s10, s11, k4⟩
      obtain ⟨J, rfl⟩ : ∃ J : Nat → AV, T = [x1, y1, J 2, J 3, J 4, J 5, J 6, J 7, J 8, J 9, J 10, J 11, J 12, J 13, J 14, J 15, J 16, J 17, J 18, J 19, J 20, J 21, J 22, J 23, J 24, J 25, J 26, J 27, J 28, J 29, J 30, J 31, J 32, J 33, J 34, J 35, J 36, J 37, J 38, J 39, J 40, J 41, J 42, J 43, J 44, J 45, J 46, J 47, J 48, J 49, J 50, J 51, J 52, J 53, J 54, J 55, J 56, J 57, J 58, J 59, J 60, J 61, J 62, J 63, J 64, J 65, J 66, J 67, J 68, J 69] := ⟨fun i => T.getD i undefA, (ex70 T hTl).trans (by rw [h0t, h1t])⟩
      clear hTl h0t h1t
      have k4m := k4.m
      have dX1 := dig_digits (show 0 ≤ X1 by omega)
      have dY1 := dig_digits s7
      have l1 : (digits X1).length ≤ xs.length + ys.length := Nat.le_trans (digits_len_le (by omega) s9) lM
      have l2 : (digits Y1).length ≤ (digits X1).length := digits_len_le s7 s8
      refine ⟨_, len_sl hT (v := x1) rfl s3, ?_⟩
      refine ⟨fun h2 => ?_, fun h2 => ?_⟩
      · refine ⟨_, len_sl hT (v := y1) rfl s5, ?_⟩
        refine ⟨fun h0 => ?_, fun h0 => ?_⟩
        · have hy1 : Y1 = 0 := digits_nil.1 (List.eq_nil_of_length_eq_zero (by omega))
          subst hy1
          have hg := gcd_of (G := X1) (X := val xs) (Y := val ys) (by omega) fun k => by
            rw [← s11 k]; exact ⟨fun h => ⟨h, Int.dvd_zero k⟩, fun h => h.1⟩
          have hfin : Sl H4 x1 (digits (Int.gcd (val xs) (val ys) : Int)) ∧ Kp H H4 (3000 * (xs.length + ys.length) + 500) := ⟨by rw [hg]; exact s3, k4.le (by omega)⟩
          exact hfin
        · have hne : digits Y1 ≠ [] := fun h => h0 (by rw [h]; rfl)
          have hY1 : 0 < Y1 := by
            rcases ilt_or 0 Y1 with h | h
            · exact h
            · exact absurd (by rw [show Y1 = 0 by omega]; rfl) hne
          obtain ⟨e, rfl⟩ : ∃ e', e = e' + 1 := by
            cases e with
            | zero =>
              exfalso
              have : 1 * 1 ≤ X1 * Y1 := Int.mul_le_mul (by omega) (by omega) (by omega) (by omega)
              rw [Int.pow_zero] at s10
              omega
            | succ e => exact ⟨e, rfl⟩
          have hpw : (2:Int) ^ (e + 1) = 2 * 2 ^ e := by rw [Int.pow_succ]; omega
          rw [hpw] at s10
          refine (euclid_run S hS (H := H4) (x := x1) (y := y1) (by omega) s3 s5 s4 s6 (by omega) (by omega) l2 hne dX1 dY1 (by rw [val_digits, val_digits]; exact s8)).mono ?_
          rw [val_digits, val_digits]
          rintro _ H5 ⟨ca', cb', cc', cd', rfl, hE', k5⟩
          have k5m := k5.m
          refine ⟨fun hb0 => ?_, fun hb0 => ?_⟩
          · obtain ⟨q1, q2, q3, q4, q5, q6, q7, q8⟩ := hE' hb0
            refine (mixed_run S hS (H := H5) (x := x1) (y := y1) (by omega) (s3.kp k5) (s5.kp k5) (by omega) (by omega) (nrm_digits _).sml' (nrm_digits _).sml' q5 q6).mono ?_
            rw [val_digits, val_digits]
            rintro r6 H6 ⟨hM6, hn6⟩
            have k6 := hM6.kp hn6
            have k6m := k6.m
            refine (mixed_run S hS (H := H6) (x := x1) (y := y1) (by omega) ((s3.kp k5).kp k6) ((s5.kp k5).kp k6) (by omega) (by omega) (nrm_digits _).sml' (nrm_digits _).sml' q7 q8).mono ?_
            rw [val_digits, val_digits]
            rintro r7 H7 ⟨hM7, hn7⟩
            have k7 := hM7.kp hn7
            refine ⟨e, by omega, e, ca' * X1 + cb' * Y1, cc' * X1 + cd' * Y1, r6, r7, H7, _, rfl, rfl, rfl, rfl, rfl, by omega, hM6.toSl.kp k7, hM6.cp, hM7.toSl, hM7.cp, q1.1, by omega, by omega, by omega, fun k => (q4 k).trans (s11 k), ?_⟩
            exact k4.trans (k5.trans (k6.trans k7 (Nat.le_refl _)) (Nat.le_refl _)) (by omega)
          · refine (quotient_run S hS (H := H5) (x := x1) (y := y1) (by omega) (s3.kp k5) (s5.kp k5) (by omega) (by omega) dX1 (nrm_digits _).2 dY1 (nrm_digits _).2 hne).mono ?_
            rw [val_digits, val_digits]
            rintro _ H6 ⟨r6, r7, rfl, -, ⟨hr7, cr7⟩, k6⟩
            obtain ⟨m1, m2, m3, m4⟩ := mod_half hY1 s8
            refine ⟨e, by omega, e, Y1, X1 % Y1, y1, r7, H6, _, rfl, rfl, rfl, rfl, rfl, by omega, (s5.kp k5).kp k6, s6, hr7, cr7, m1, by omega, by omega, by omega, fun k => (m4 k).trans (s11 k), ?_⟩
            exact k4.trans (k5.trans k6 (Nat.le_refl _)) (by omega)
      · refine (vsmall_run S hS.h108 hS.h182 hS.h228 (H := H4) (x := x1) (by omega) s3 (by omega) (small_in dX1.sml (by omega))).mono ?_
        rw [val_digits]
        rintro _ H5 ⟨rfl, k5⟩
        have k5m := k5.m
        refine (vsmall_run S hS.h108 hS.h182 hS.h228 (H := H5) (x := y1) (by omega) (s5.kp k5) (by omega) (small_in dY1.sml (by omega))).mono ?_
        rw [val_digits]
        rintro _ H6 ⟨rfl, k6⟩
        have k6m := k6.m
        have hXb : X1 < 10000000000000000 := by
          have h1 := dX1.val.2
          rw [val_digits] at h1
          have h2 := pw_mono (show (digits X1).length ≤ 2 by omega)
          have : pw 2 = 10000000000000000 := by decide
          omega
        refine ⟨fun m s => ∃ (p q : Int) (T : List AV), s = ⟨T, H6, []⟩ ∧ T.length = 70 ∧ T.getD 11 undefA = iv p ∧ T.getD 12 undefA = iv q ∧ m = q.toNat ∧ 0 ≤ p ∧ p < 10000000000000000 ∧ 0 ≤ q ∧ q < 10000000000000000 ∧ (∀ k : Int, (k ∣ p ∧ k ∣ q) ↔ (k ∣ val xs ∧ k ∣ val ys)), ⟨Y1.toNat, ?_⟩, ?_⟩
        · exact ⟨X1, Y1, _, rfl, rfl, rfl, rfl, rfl, by omega, hXb, s7, by omega, s11⟩
        · rintro m s ⟨p, q, T, rfl, hTl, h11t, h12t, rfl, t1, t2, t3, t4, t5⟩
          obtain ⟨J', rfl⟩ : ∃ J : Nat → AV, T = [J 0, J 1, J 2, J 3, J 4, J 5, J 6, J 7, J 8, J 9, J 10, iv p, iv q, J 13, J 14, J 15, J 16, J 17, J 18, J 19, J 20, J 21, J 22, J 23, J 24, J 25, J 26, J 27, J 28, J 29, J 30, J 31, J 32, J 33, J 34, J 35, J 36, J 37, J 38, J 39, J 40, J 41, J 42, J 43, J 44, J 45, J 46, J 47, J 48, J 49, J 50, J 51, J 52, J 53, J 54, J 55, J 56, J 57, J 58, J 59, J 60, J 61, J 62, J 63, J 64, J 65, J 66, J 67, J 68, J 69] := ⟨fun i => T.getD i undefA, (ex70 T hTl).trans (by rw [h11t, h12t])⟩
          clear hTl h11t h12t
          refine ⟨fun hq => ?_, fun hq => ?_⟩
          · obtain ⟨-, e2, e3, e4, e5, -⟩ := qr (m := p) (d := q) t1 (by omega)
            refine ⟨hq, ?_⟩
            refine ⟨draw_of2 H6 6 (by kernel_rfl) rfl ?_ ?_ ?_, ?_⟩
            · repeat' (first | exact trivial | refine ⟨trivial, ?_⟩)
            · repeat' (first | exact trivial | refine ⟨fun _ _ => rfl, ?_⟩)
            · repeat' (first | exact trivial | refine ⟨Nat.le_refl _, ?_⟩)
            refine ⟨(p.tmod q).toNat, by omega, q, p.tmod q, _, rfl, rfl, rfl, rfl, rfl, t3, t4, by omega, by omega, fun k => ?_⟩
            rw [← t5 k, e2]
            refine ⟨fun h => ⟨?_, h.1⟩, fun h => ⟨h.2, ?_⟩⟩
            · rw [← e3]; exact Int.dvd_add (Int.dvd_mul_of_dvd_left h.1) h.2
            · have h2 : p % q = p - q * (p / q) := by omega
              rw [h2]; exact Int.dvd_sub h.1 (Int.dvd_mul_of_dvd_left h.2)
          · subst hq
            have hg := gcd_of (G := p) (X := val xs) (Y := val ys) t1 fun k => by
              rw [← t5 k]; exact ⟨fun h => ⟨h, Int.dvd_zero k⟩, fun h => h.1⟩
            refine (of_run2 S hS.o hS.h26 (H := H6) (n := p) (by omega) (by unfold In64; omega)).mono ?_
            rintro r H7 ⟨hM7, hn7⟩
            have k7 := hM7.kp hn7
            have hfin : Sl H7 r (digits (Int.gcd (val xs) (val ys) : Int)) ∧ Kp H H7 (3000 * (xs.length + ys.length) + 500) := ⟨by rw [hg]; exact hM7.toSl, k4.trans (k5.trans (k6.trans k7 (Nat.le_refl _)) (Nat.le_refl _)) (by omega)⟩
            exact hfin
end Go.PI

