/- Own work of the verifier: CiStre. -/
import Derived.Test.YtdflpkkgjppmgaaGreatCfBC
set_option linter.all false
set_option exponentiation.threshold 3000
set_option linter.deprecated false
/- stretched; the first guess's divisor. -/
open Go.Proofs
namespace Go.PI
open IM
theorem fn207 : ctx.fn 207 = some c207 := by kernel_rfl
theorem fn191 : ctx.fn 191 = some c191 := by kernel_rfl
set_option maxRecDepth 10000
set_option maxHeartbeats 1000000
variable (S : FuncId → Option (List AV → Heap → Option (AV × Heap)))
theorem carry_pos (xs : List Int) : ∀ o, 0 ≤ o → (∀ x ∈ xs, 0 ≤ x) → Dig (carryL o xs) ∧ 0 ≤ carryO o xs := by
  induction xs with
  | nil => intro o ho _; exact ⟨fun _ h => (List.not_mem_nil h).elim, ho⟩
  | cons e xs ih =>
    intro o ho hx
    have he := hx e (by simp)
    have t1 := tq e
    have t2 := tq (e.tmod 100000000 + o)
    have h := ih (e.tdiv 100000000 + (e.tmod 100000000 + o).tdiv 100000000) (by omega) fun x h => hx x (by simp [h])
    refine ⟨?_, h.2⟩
    intro x hx
    simp only [carryL, List.mem_cons] at hx
    rcases hx with rfl | hx
    · omega
    · exact h.1 x hx
def mulL (f : Int) (xs : List Int) : List Int := xs.map fun x => f * x
theorem mulL_snoc (f : Int) (xs : List Int) (x : Int) : mulL f (xs ++ [x]) = mulL f xs ++ [f * x] := by simp [mulL]
theorem mulL_val (f : Int) (xs : List Int) : val (mulL f xs) = f * val xs := by
  induction xs with
  | nil => simp [mulL, val]
  | cons x xs ih =>
    simp only [mulL, List.map_cons, val] at *
    rw [ih]; grind
theorem stretched_run (h207 : S 207 = none) (h155 : S 155 = none) {H : Heap} {x : AV} {xs : List Int} {f : Int} {more : Nat} (hn : H.n + 4 < lim) (hx : Sl H x xs) (hl : xs.length ≤ 1000000) (hm : more ≤ 1) (dx : Dig xs) (hf : 1 ≤ f ∧ f ≤ 100000000) (hfit : f * val xs < pw (xs.length + more)) :
    Cl (ctx.plus S) 207 [x, iv f, iv more] H fun r H' => ∃ Z, r = .sl H.n 0 (xs.length + more) (xs.length + more) ∧ H'.get H.n = .cells true 3 (ints Z) ∧ Z.length = xs.length + more ∧ Dig Z ∧ val Z = f * val xs ∧ H'.n = H.n + 1 ∧ ∀ A, A < H.n → H'.get A = H.get A := by
  refine cl_of h207 fn207 ?_
  have hT : (ctx.plus S).ty = tget := rfl
  refine ⟨_, len_sl hT (v := x) rfl hx, ?_⟩
  refine ⟨⟨by omega, by omega⟩, ?_⟩
  obtain ⟨N, hN⟩ : ∃ N, N = xs.length + more := ⟨_, rfl⟩
  rw [show (xs.length : Int) + (more : Int) = (N : Int) by omega]
  refine ⟨by omega, ⟨by omega, by omega, by omega⟩, ?_⟩
  rw [show ((N : Int)).toNat = N by omega, show (List.replicate N t3.zero.cells).flatten = ints (List.replicate N 0) from ints_zeros _]
  rw [← hN] at hfit ⊢
  have hp := Heap.get_push (H := H) (b := .cells true 3 (ints (List.replicate N 0))) (by omega)
  have hpn : (H.push (.cells true 3 (ints (List.replicate N 0)))).n = H.n + 1 := rfl
  generalize H.push (.cells true 3 (ints (List.replicate N 0))) = H1 at hp hpn ⊢
  have hk1 : ∀ A, A < H.n → H1.get A = H.get A := fun A hA => by rw [hp, if_neg (by omega)]
  have hb1 : H1.get H.n = .cells true 3 (ints (List.replicate N 0)) := by rw [hp, if_pos rfl]
  refine ⟨_, len_sl hT (v := x) rfl hx, ?_⟩
  refine ⟨fun m s => ∃ (i : Nat) (n : Int) (H' : Heap) (j3 j4 j5 j6 j8 j9 j10 j11 j12 j13 j14 j18 j19 j20 j21 j22 j23 j24 j25 j26 j27 j28 j29 j30 j31 : AV),
    s = ⟨[x, iv f, iv more, j3, j4, j5, j6, .sl H.n 0 N N, j8, j9, j10, j11, j12, j13, j14, x, iv xs.length, iv n, j18, j19, j20, j21, j22, j23, j24, j25, j26, j27, j28, j29, j30, j31], H', []⟩ ∧ m = xs.length - i ∧ n = i ∧ i ≤ xs.length ∧ Upd H1 H.n (.cells true 3 (ints (mulL f (xs.take i) ++ List.replicate (N - i) 0))) H', ⟨xs.length, ?_⟩, ?_⟩
  · exact ⟨0, _, H1, _, _, _, _, _, _, _, _, _, _, _, _, _, _, _, _, _, _, _, _, _, _, _, _, _, rfl, rfl, rfl, Nat.zero_le _, Upd.refl (by simpa [mulL] using hb1)⟩
  · rintro m s ⟨i, n, H', j3, j4, j5, j6, j8, j9, j10, j11, j12, j13, j14, j18, j19, j20, j21, j22, j23, j24, j25, j26, j27, j28, j29, j30, j31, rfl, hm', rfl, hi, hV⟩
    have hk : ∀ A, A < H.n → H'.get A = H.get A := fun A hA => by rw [hV.other A (by omega)]; exact hk1 A hA
    have hn' : H'.n = H.n + 1 := by rw [hV.n]; exact hpn
    have hZl : (mulL f (xs.take i) ++ List.replicate (N - i) 0).length = N := by simp [mulL]; omega
    have hOw : Ow H' (.sl H.n 0 N N) H.n (mulL f (xs.take i) ++ List.replicate (N - i) 0) N := ⟨hV.at_, by omega, .inl ⟨N, rfl, by omega, by omega⟩⟩
    refine ⟨fun hlt => ?_, fun hge => ?_⟩
    · obtain ⟨e, he⟩ : ∃ e, xs[i]? = some e := ⟨xs[i]'(by omega), List.getElem?_eq_getElem _⟩
      have heB := dx e (List.mem_of_getElem? he)
      have hfe := mul_bd (a := f) (b := e) (m := 100000000) (n := 100000000) (by omega) (by omega)
      refine ⟨_, idx_sl hT (v := x) (n := i) rfl rfl (hx.mono hk) rfl (by omega), ?_⟩
      refine ⟨_, load_sl hT (hx.mono hk) he, ?_⟩
      refine ⟨⟨by omega, by omega⟩, ?_⟩
      refine ⟨_, idx_sl hT (v := .sl H.n 0 N N) (n := i) rfl rfl hOw.sl rfl (by rw [List.take_of_length_le (by omega)]; omega), ?_⟩
      refine ⟨_, store_ow hT hOw (by omega), ?_⟩
      refine ⟨⟨by omega, by omega⟩, ?_⟩
      refine ⟨xs.length - (i + 1), by omega, i + 1, _, _, _, _, _, _, _, _, _, _, _, _, _, _, _, _, _, _, _, _, _, _, _, _, _, _, _, rfl, rfl, rfl, by omega, ?_⟩
      have hset : (mulL f (xs.take i) ++ List.replicate (N - i) 0).set i (f * e) = mulL f (xs.take (i + 1)) ++ List.replicate (N - (i + 1)) 0 := by
        have hl1 : (mulL f (xs.take i)).length = i := by simp [mulL]; omega
        rw [take_snoc he, mulL_snoc, List.set_append_right _ _ (by omega), hl1, Nat.sub_self, show N - i = (N - (i + 1)) + 1 by omega, List.replicate_succ]
        simp
      rw [← hset]
      exact hV.trans (upd_set (by omega) (by omega))
    · have hiy : i = xs.length := by omega
      subst hiy
      have hin : ∀ e ∈ mulL f (xs.take xs.length) ++ List.replicate (N - xs.length) 0, 0 ≤ e ∧ e ≤ 10000000000000000 := by
        intro e he
        rcases List.mem_append.1 he with h | h
        · obtain ⟨y, hy, rfl⟩ := List.mem_map.1 h
          have hyB := dx y (List.mem_of_mem_take hy)
          have := mul_bd (a := f) (b := y) (m := 100000000) (n := 100000000) (by omega) (by omega)
          have := Int.mul_nonneg (show 0 ≤ f by omega) hyB.1
          omega
        · have := (List.mem_replicate.1 h).2; omega
      refine (carry_run S h155 (by omega) (by omega) hOw (fun e he => by have := hin e (List.mem_of_mem_take he); unfold In64; omega)).mono ?_
      rintro _ H2 ⟨rfl, hU⟩
      rw [List.take_of_length_le (by omega), List.drop_of_length_le (by omega), List.append_nil] at hU
      obtain ⟨c1, c2⟩ := carry_pos _ 0 (by omega) (fun e he => (hin e he).1)
      have cv := carry_val (mulL f (xs.take xs.length) ++ List.replicate (N - xs.length) 0) 0
      have cl := carry_length (mulL f (xs.take xs.length) ++ List.replicate (N - xs.length) 0) 0
      rw [hZl] at cv cl
      have hvz : val (mulL f (xs.take xs.length) ++ List.replicate (N - xs.length) 0) = f * val xs := by
        rw [val_append, mulL_val, val_zeros, List.take_length]; omega
      have hdx := dx.val.1
      have hfx := Int.mul_nonneg (show 0 ≤ f by omega) hdx
      obtain ⟨z1, z2⟩ := top_zero cl c1 cv (by omega) (by omega)
      have hfin : ∃ Z, AV.sl H.n 0 N N = .sl H.n 0 N N ∧ H2.get H.n = .cells true 3 (ints Z) ∧ Z.length = N ∧ Dig Z ∧ val Z = f * val xs ∧ H2.n = H.n + 1 ∧ ∀ A, A < H.n → H2.get A = H.get A :=
        ⟨_, rfl, hU.at_, cl, c1, by rw [z2, hvz]; omega, by rw [hU.n]; exact hn', fun A hA => by rw [hU.other A (by omega)]; exact hk A hA⟩
      exact hfin
theorem factor {t f : Int} (ht : 1 ≤ t ∧ t < 100000000) (hf : f = 100000000 / (t + 1)) : 1 ≤ f ∧ f ≤ 50000000 ∧ f * (t + 1) ≤ 100000000 ∧ 50000000 ≤ f * t := by
  have h1 := Int.mul_ediv_add_emod 100000000 (t + 1)
  have h2 := Int.emod_nonneg 100000000 (show t + 1 ≠ 0 by omega)
  have h3 := Int.emod_lt_of_pos 100000000 (show 0 < t + 1 by omega)
  rw [← hf] at h1
  have e1 : (t + 1) * f = f * t + f := by grind
  rw [e1] at h1
  have e2 : f * (t + 1) = f * t + f := by grind
  have hf1 : 1 ≤ f := by
    rcases ilt_or f 1 with h | h
    · exfalso
      have := Int.mul_le_mul_of_nonneg_right (show f ≤ 0 by omega) (show 0 ≤ t by omega)
      omega
    · exact h
  have hp : f * 1 ≤ f * t := Int.mul_le_mul_of_nonneg_left ht.1 (by omega)
  refine ⟨hf1, by omega, by omega, ?_⟩
  rcases ilt_or f 2 with h | h
  · have : f = 1 := by omega
    subst this; omega
  · rcases ilt_or t 2 with h' | h'
    · have : t = 1 := by omega
      subst this; omega
    · have a1 : 0 ≤ (f - 2) * (t - 2) := Int.mul_nonneg (by omega) (by omega)
      have a2 : (f - 2) * (t - 2) = f * t - 2 * f - 2 * t + 4 := by grind
      omega
end Go.PI
