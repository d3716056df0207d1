/- Own work of the verifier: CiProd. -/
import Derived.Test.YtdflpkkgjppmgaaGreatCfAX
set_option linter.all false
set_option exponentiation.threshold 3000
set_option linter.deprecated false
open Go.Proofs
namespace Go.PI
open IM
set_option maxRecDepth 10000
set_option maxHeartbeats 1000000
variable (S : FuncId → Option (List AV → Heap → Option (AV × Heap)))
def negL (xs : List Int) : List Int := xs.map fun x => -x
theorem negL_snoc (xs : List Int) (x : Int) : negL (xs ++ [x]) = negL xs ++ [-x] := by simp [negL]
theorem negative_run2 (h193 : S 193 = none) {H : Heap} {x : AV} {xs : List Int} (hn : H.n + 4 < lim) (hx : Sl H x xs) (hl : xs.length ≤ 1000000) (hr : ∀ e ∈ xs, In64 (0 - e)) :
    Cl (ctx.plus S) 193 [x] H fun r H' => Mine H H.n r (negL xs) H' ∧ H'.n ≤ H.n + 8 := by
  refine cl_of h193 fn193 ?_
  have hT : (ctx.plus S).ty = tget := rfl
  refine ⟨_, len_sl hT (v := x) rfl hx, ?_⟩
  refine ⟨by omega, ⟨by omega, by omega, by omega⟩, ?_⟩
  rw [show ((xs.length : Int)).toNat = xs.length by omega, show (List.replicate xs.length t3.zero.cells).flatten = ints (List.replicate xs.length 0) from ints_zeros _]
  have hp := Heap.get_push (H := H) (b := .cells true 3 (ints (List.replicate xs.length 0))) (by omega)
  have hpn : (H.push (.cells true 3 (ints (List.replicate xs.length 0)))).n = H.n + 1 := rfl
  generalize H.push (.cells true 3 (ints (List.replicate xs.length 0))) = H1 at hp hpn ⊢
  have hk1 : ∀ A, A < H.n → H1.get A = H.get A := fun A hA => by rw [hp, if_neg (by omega)]
  have hb1 : H1.get H.n = .cells true 3 (ints (List.replicate xs.length 0)) := by rw [hp, if_pos rfl]
  refine ⟨_, len_sl hT (v := x) rfl hx, ?_⟩
  refine ⟨fun m s => ∃ (i : Nat) (n : Int) (H' : Heap) (j1 j2 j4 j5 j6 j7 j8 j12 j13 j14 j15 j16 j17 j18 j19 j20 j21 j22 : AV),
    s = ⟨[x, j1, j2, .sl H.n 0 xs.length xs.length, j4, j5, j6, j7, j8, x, iv xs.length, iv n, j12, j13, j14, j15, j16, j17, j18, j19, j20, j21, j22], H', []⟩ ∧ m = xs.length - i ∧ n = i ∧ i ≤ xs.length ∧ Upd H1 H.n (.cells true 3 (ints (negL (xs.take i) ++ List.replicate (xs.length - i) 0))) H', ⟨xs.length, ?_⟩, ?_⟩
  · exact ⟨0, _, H1, _, _, _, _, _, _, _, _, _, _, _, _, _, _, _, _, _, _, rfl, rfl, rfl, Nat.zero_le _, Upd.refl (by simpa [negL] using hb1)⟩
  · rintro m s ⟨i, n, H', j1, j2, j4, j5, j6, j7, j8, j12, j13, j14, j15, j16, j17, j18, j19, j20, j21, j22, rfl, hm, rfl, hi, hV⟩
    have hk : ∀ A, A < H.n → H'.get A = H.get A := fun A hA => by rw [hV.other A (by omega)]; exact hk1 A hA
    have hn' : H'.n = H.n + 1 := by rw [hV.n]; exact hpn
    have hZl : (negL (xs.take i) ++ List.replicate (xs.length - i) 0).length = xs.length := by simp [negL]; omega
    have hOw : Ow H' (.sl H.n 0 xs.length xs.length) H.n (negL (xs.take i) ++ List.replicate (xs.length - i) 0) xs.length := ⟨hV.at_, by omega, .inl ⟨xs.length, rfl, by omega, by omega⟩⟩
    refine ⟨fun hlt => ?_, fun hge => ?_⟩
    · obtain ⟨e, he⟩ : ∃ e, xs[i]? = some e := ⟨xs[i]'(by omega), List.getElem?_eq_getElem _⟩
      refine ⟨_, idx_sl hT (v := x) (n := i) rfl rfl (hx.mono hk) rfl (by omega), ?_⟩
      refine ⟨_, load_sl hT (hx.mono hk) he, ?_⟩
      refine ⟨hr e (List.mem_of_getElem? he), ?_⟩
      refine ⟨_, idx_sl hT (v := .sl H.n 0 xs.length xs.length) (n := i) rfl rfl hOw.sl rfl (by rw [List.take_of_length_le (by omega)]; omega), ?_⟩
      refine ⟨_, store_ow hT hOw (by omega), ?_⟩
      refine ⟨⟨by omega, by omega⟩, ?_⟩
      refine ⟨xs.length - (i + 1), by omega, i + 1, _, _, _, _, _, _, _, _, _, _, _, _, _, _, _, _, _, _, _, _, rfl, rfl, rfl, by omega, ?_⟩
      have hset : (negL (xs.take i) ++ List.replicate (xs.length - i) 0).set i (0 - e) = negL (xs.take (i + 1)) ++ List.replicate (xs.length - (i + 1)) 0 := by
        have hl1 : (negL (xs.take i)).length = i := by simp [negL]; omega
        rw [take_snoc he, negL_snoc, List.set_append_right _ _ (by omega), hl1, Nat.sub_self, show xs.length - i = (xs.length - (i + 1)) + 1 by omega, List.replicate_succ]
        simp
      rw [← hset]
      exact hV.trans (upd_set (by omega) (by omega))
    · have hiy : i = xs.length := by omega
      subst hiy
      have hM : Mine H H.n (.sl H.n 0 xs.length xs.length) ((negL (xs.take xs.length) ++ List.replicate (xs.length - xs.length) 0).take xs.length) H' := Mine.fresh_refl (by omega) hk hOw (Nat.le_refl _)
      have e : (negL (xs.take xs.length) ++ List.replicate (xs.length - xs.length) 0).take xs.length = negL xs := by
        rw [List.take_of_length_le (by omega)]; simp
      rw [e] at hM
      have h3 : Mine H H.n (.sl H.n 0 xs.length xs.length) (negL xs) H' ∧ H'.n ≤ H.n + 8 := ⟨hM, by omega⟩
      exact h3
theorem size_run2 (h187 : S 187 = none) (h183 : S 183 = none) (h193 : S 193 = none) {H : Heap} {x : AV} {xs : List Int} (hn : H.n + 4 < lim) (hx : Sl H x xs) (hl : xs.length ≤ 1000000) (hr : ∀ e ∈ xs, In64 (0 - e)) :
    Cl (ctx.plus S) 187 [x] H fun r H' => (if sgnL xs < 0 then Mine H H.n r (negL xs) H' else r = x ∧ H = H') ∧ H'.n ≤ H.n + 8 := by
  refine cl_of h187 fn187 ?_
  refine (sign_run S h183 (v := x) (by omega) hx).mono ?_
  rintro _ _ ⟨rfl, rfl⟩
  refine ⟨fun h0 => ?_, fun h0 => ?_⟩
  · refine (negative_run2 S h193 hn hx hl hr).mono ?_
    rintro r H' ⟨hM, hM2⟩
    have h1 : (if sgnL xs < 0 then Mine H H.n r (negL xs) H' else r = x ∧ H = H') ∧ H'.n ≤ H.n + 8 := by rw [if_pos h0]; exact ⟨hM, hM2⟩
    exact h1
  · have h1 : (if sgnL xs < 0 then Mine H H.n x (negL xs) H else x = x ∧ H = H) ∧ H.n ≤ H.n + 8 := by rw [if_neg (by omega)]; exact ⟨⟨rfl, rfl⟩, by omega⟩
    exact h1
theorem append_empty {C : Ctx} (hT : C.ty = tget) {H : Heap} {v : AV} {xs : List Int} (hn : H.n + 1 < lim) (h : Sl H v xs) (hl : xs.length ≤ 1000000) :
    ∃ r H', appendE C [22, 22] (.sl H.n 0 0 0) v (H.push (.cells true 3 [])) = some (r, H') ∧ Mine H H.n r xs H' ∧ H'.n ≤ H.n + 2 := by
  have hp := Heap.get_push (H := H) (b := .cells true 3 []) (by omega)
  have hpn : (H.push (.cells true 3 [])).n = H.n + 1 := rfl
  generalize H.push (.cells true 3 []) = H1 at hp hpn ⊢
  have hk1 : ∀ A, A < H.n → H1.get A = H.get A := fun A hA => by rw [hp, if_neg (by omega)]
  have hb1 : H1.get H.n = .cells true 3 [] := by rw [hp, if_pos rfl]
  have h1 := h.mono hk1
  have hnlim : ¬ lim ≤ H1.n := by omega
  by_cases h0 : xs = []
  · subst h0
    refine ⟨.sl H.n 0 0 0, H1.set H.n (.cells true 3 []), ?_, ⟨by show H.n ≤ H1.n; omega, fun A hA _ => ?_, H.n, [], ⟨?_, by simp, .inl ⟨0, rfl, by simp, by simp⟩⟩, rfl, .inl rfl⟩, by show H1.n ≤ H.n + 2; omega⟩
    · simp only [appendE, ty22 hT, ty3 hT, t22, t3, srcOk, lenE_sl h1, cellsE_sl h1 (Nat.le_refl _), hb1, List.take_length, ones_ints]
      simp [hnlim, ints, splice]
    · rw [Heap.get_set (by omega) (by omega), if_neg (by omega)]; exact hk1 A hA
    · rw [Heap.get_set (by omega) (by omega), if_pos rfl]; rfl
  · have hpos : 0 < xs.length := List.length_pos_iff.2 h0
    have hsn : (H1.push (.cells true 3 (ints xs))).n = H1.n + 1 := rfl
    refine ⟨.slu H1.n 0 xs.length 1, H1.push (.cells true 3 (ints xs)), ?_, ⟨by omega, fun A hA _ => ?_, H1.n, xs, ⟨?_, Nat.le_refl _, .inr rfl⟩, List.take_length, .inr (by omega)⟩, by omega⟩
    · simp only [appendE, ty22 hT, ty3 hT, t22, t3, srcOk, lenE_sl h1, cellsE_sl h1 (Nat.le_refl _), hb1, List.take_length, ones_ints]
      simp [hnlim, h0]
      omega
    · rw [Heap.get_push (by omega), if_neg (by omega)]; exact hk1 A hA
    · rw [Heap.get_push (by omega), if_pos rfl]
theorem clone_run (h164 : S 164 = none) {H : Heap} {x : AV} {xs : List Int} (hn : H.n + 4 < lim) (hx : Sl H x xs) (hl : xs.length ≤ 1000000) :
    Cl (ctx.plus S) 164 [x] H fun r H' => (x = .nils ∧ r = .nils ∧ H = H') ∨ (x ≠ .nils ∧ Mine H H.n r xs H' ∧ H'.n ≤ H.n + 2) := by
  refine cl_of h164 fn164 ?_
  have hT : (ctx.plus S).ty = tget := rfl
  obtain ⟨r, H', hr1, hr2, hr3⟩ := append_empty hT (C := ctx.plus S) (by omega) hx hl
  have hx' := hx
  unfold Sl at hx'
  split at hx'
  · exact .inl ⟨rfl, rfl, rfl⟩
  · refine ⟨by omega, _, _, rfl, ?_⟩
    exact ⟨r, H', hr1, .inr ⟨by simp, hr2, hr3⟩⟩
  · refine ⟨by omega, _, _, rfl, ?_⟩
    exact ⟨r, H', hr1, .inr ⟨by simp, hr2, hr3⟩⟩
  · refine ⟨by omega, _, _, rfl, ?_⟩
    exact ⟨r, H', hr1, .inr ⟨by simp, hr2, hr3⟩⟩
  · exact hx'.elim
theorem normal_run2 (hS : Old S) (h153 : S 153 = none) (h182 : S 182 = none) (h164 : S 164 = none) {H : Heap} {x : AV} {xs : List Int} (hn : H.n + 20 < lim) (hx : Sl H x xs) (hl : xs.length ≤ 1000000) (hr : ∀ e ∈ xs, In64 e) :
    Cl (ctx.plus S) 153 [x] H fun r H' => (if nrmB xs = true then r = x ∧ H = H' else Mine H H.n r (digits (val xs)) H') ∧ H'.n ≤ H.n + 8 := by
  refine cl_of h153 fn153 ?_
  refine (isNormal_run S h182 (v := x) (by omega) hx).mono ?_
  rintro _ _ ⟨rfl, rfl⟩
  cases hb : nrmB xs with
  | true =>
    have h1 : (if true = true then x = x ∧ H = H else Mine H H.n x (digits (val xs)) H) ∧ H.n ≤ H.n + 8 := by rw [if_pos rfl]; exact ⟨⟨rfl, rfl⟩, by omega⟩
    exact h1
  | false =>
    refine (clone_run S h164 (by omega) hx hl).mono ?_
    rintro r H1 (⟨rfl, -, -⟩ | ⟨-, hM, hn1⟩)
    · have : xs = [] := hx
      subst this
      cases hb
    · refine (settle_old S hS (by omega) (by omega) hM hr).mono ?_
      rintro r2 H2 ⟨hM2, hn2⟩
      have h1 : (if false = true then r2 = x ∧ H = H2 else Mine H H.n r2 (digits (val xs)) H2) ∧ H2.n ≤ H.n + 8 := by rw [if_neg (by simp)]; exact ⟨hM2, by omega⟩
      exact h1
end Go.PI
