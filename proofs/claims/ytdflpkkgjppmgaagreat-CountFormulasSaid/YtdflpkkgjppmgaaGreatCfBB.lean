/- Own work of the verifier: CiSubt. -/
import Derived.Test.YtdflpkkgjppmgaaGreatCfBA
set_option linter.all false
set_option exponentiation.threshold 3000
set_option linter.deprecated false
/- subtract, digit. -/
open Go.Proofs
namespace Go.PI
open IM
theorem fn211 : ctx.fn 211 = some c211 := by kernel_rfl
theorem fn208 : ctx.fn 208 = some c208 := by kernel_rfl
set_option maxRecDepth 10000
set_option maxHeartbeats 1000000
variable (S : FuncId → Option (List AV → Heap → Option (AV × Heap)))
def nb (v : AV) (b : Nat) : Prop :=
  match v with
  | .sl b' _ _ _ => b' ≠ b
  | .slu b' _ _ _ => b' ≠ b
  | _ => True
theorem Sl.other {H H' : Heap} {v : AV} {xs : List Int} {b : Nat} (h : Sl H v xs) (hv : nb v b) (k : ∀ A, A ≠ b → H'.get A = H.get A) : Sl H' v xs := by
  unfold Sl at *
  unfold nb at hv
  split at h <;> try exact h
  · obtain ⟨h1, rw, ty, cs, h2, h3⟩ := h
    exact ⟨h1, rw, ty, cs, by rw [k _ hv]; exact h2, h3⟩
  · obtain ⟨h0, h1, rw, ty, cs, h2, h3⟩ := h
    exact ⟨h0, h1, rw, ty, cs, by rw [k _ hv]; exact h2, h3⟩
section
variable {C : Ctx} (hT : C.ty = tget)
include hT
theorem idx_off {ρ : Operand → Option AV} {x i : Operand} {b o l c k : Nat} {n : Int} (hx : ρ x = some (.sl b o l c)) (hi : ρ i = some (iv n)) (hk : n = k) (hl : k < l) :
    pureE C ρ (.indexAddr 22 x i) = some (.ptr b (o + k)) := by
  subst hk
  have h0 : (0 : Int) ≤ (k : Int) ∧ (k : Int) < (l : Int) := by omega
  simp only [pureE, hx, hi, ty22 hT, t22]
  simp [ty3 hT, t3, h0]
theorem load_off {H : Heap} {b o k : Nat} {rw : Bool} {ty : TypeId} {zs : List Int} {x : Int} (h : H.get b = .cells rw ty (ints zs)) (hx : zs[o + k]? = some x) : loadE C 3 (.ptr b (o + k)) H = some (iv x) := by
  simp only [loadE, ty3 hT, h, partE, t3]
  exact ints_get hx
theorem store_off {H : Heap} {b o k : Nat} {zs : List Int} {x : Int} (h : H.get b = .cells true 3 (ints zs)) (hk : o + k < zs.length) : storeE C 3 (.ptr b (o + k)) (iv x) H = some (H.set b (.cells true 3 (ints (zs.set (o + k) x)))) := by
  simp only [storeE, ty3 hT, t3, h, AV.cells, List.length_singleton, ints_length]
  rw [if_pos ⟨trivial, by omega, rfl⟩, splice_one (by rw [ints_length]; omega), ints_set]
end
theorem emod_of (t : Int) : t = 100000000 * (if t.tmod 100000000 < 0 then t.tdiv 100000000 - 1 else t.tdiv 100000000) + (if t.tmod 100000000 < 0 then t.tmod 100000000 + 100000000 else t.tmod 100000000) ∧ 0 ≤ (if t.tmod 100000000 < 0 then t.tmod 100000000 + 100000000 else t.tmod 100000000) ∧ (if t.tmod 100000000 < 0 then t.tmod 100000000 + 100000000 else t.tmod 100000000) < 100000000 := by
  have := tq t
  split <;> omega
theorem val_snoc (xs : List Int) (x : Int) : val (xs ++ [x]) = val xs + pw xs.length * x := by rw [val_append]; simp [val]
theorem subtract_run (h211 : S 211 = none) {H : Heap} {v : AV} {b o c n : Nat} {A U Z vs : List Int} {g t0 : Int} (hn : H.n < lim) (hb : b < H.n) (hA : A.length = o) (hU : U.length = n) (hvs : vs.length = n) (hnl : n ≤ 1000000)
    (hB : H.get b = .cells true 3 (ints (A ++ (U ++ t0 :: Z)))) (hv : Sl H v vs) (hvb : nb v b) (dU : Dig U) (dv : Dig vs) (ht0 : -100000000 ≤ t0 ∧ t0 ≤ 100000000) (hg : -1 ≤ g ∧ g ≤ 100000000) :
    Cl (ctx.plus S) 211 [.sl b o (n + 1) c, iv g, v] H fun r H' => ∃ L t, r = iv t ∧ L.length = n ∧ Dig L ∧ val L + pw n * t = val U + pw n * t0 - g * val vs ∧ -300000000 ≤ t ∧ t ≤ 300000000 ∧ Upd H b (.cells true 3 (ints (A ++ (L ++ t :: Z)))) H' := by
  refine cl_of h211 fn211 ?_
  have hT : (ctx.plus S).ty = tget := rfl
  refine ⟨_, len_sl hT (v := v) rfl hv, ?_⟩
  refine ⟨_, len_sl hT (v := v) rfl hv, ?_⟩
  rw [hvs]
  refine ⟨fun m s => ∃ (i : Nat) (k w : Int) (L : List Int) (H' : Heap) (j3 j4 j5 j6 j9 j10 j11 j12 j13 j17 j18 j19 j20 j21 j22 j23 j24 j25 j26 j27 j28 j29 j30 j31 j32 j33 j34 j35 j36 j37 j38 j39 j40 j41 j42 j43 j44 j45 j46 j47 j48 j49 j50 j51 j52 j53 j54 j55 j56 j57 j58 j59 j60 j61 j62 : AV),
    s = ⟨[.sl b o (n + 1) c, iv g, v, j3, j4, j5, j6, iv n, iv w, j9, j10, j11, j12, j13, v, iv n, iv k, j17, j18, j19, j20, j21, j22, j23, j24, j25, j26, j27, j28, j29, j30, j31, j32, j33, j34, j35, j36, j37, j38, j39, j40, j41, j42, j43, j44, j45, j46, j47, j48, j49, j50, j51, j52, j53, j54, j55, j56, j57, j58, j59, j60, j61, j62], H', []⟩ ∧ m = n - i ∧ k = i ∧ i ≤ n ∧ L.length = i ∧ Dig L ∧ val L + pw i * w = val (U.take i) - g * val (vs.take i) ∧ -100000001 ≤ w ∧ w ≤ 2 ∧ Upd H b (.cells true 3 (ints (A ++ (L ++ (U.drop i ++ t0 :: Z))))) H', ⟨n, ?_⟩, ?_⟩
  · exact ⟨0, _, 0, [], H, _, _, _, _, _, _, _, _, _, _, _, _, _, _, _, _, _, _, _, _, _, _, _, _, _, _, _, _, _, _, _, _, _, _, _, _, _, _, _, _, _, _, _, _, _, _, _, _, _, _, _, _, _, _, _, rfl, rfl, rfl, Nat.zero_le _, rfl, fun _ h => (List.not_mem_nil h).elim, by simp [val], by omega, by omega, Upd.refl (by simpa using hB)⟩
  · rintro m s ⟨i, k, w, L, H', j3, j4, j5, j6, j9, j10, j11, j12, j13, j17, j18, j19, j20, j21, j22, j23, j24, j25, j26, j27, j28, j29, j30, j31, j32, j33, j34, j35, j36, j37, j38, j39, j40, j41, j42, j43, j44, j45, j46, j47, j48, j49, j50, j51, j52, j53, j54, j55, j56, j57, j58, j59, j60, j61, j62, rfl, hm, rfl, hi, hL, dL, hval, hw1, hw2, hV⟩
    have hn' := hV.n
    refine ⟨fun hlt => ?_, fun hge => ?_⟩
    · have hin : i < n := by omega
      obtain ⟨e, he⟩ : ∃ e, vs[i]? = some e := ⟨vs[i]'(by omega), List.getElem?_eq_getElem _⟩
      obtain ⟨z, hz⟩ : ∃ e, U[i]? = some e := ⟨U[i]'(by omega), List.getElem?_eq_getElem _⟩
      have heB := dv e (List.mem_of_getElem? he)
      have hzB := dU z (List.mem_of_getElem? hz)
      have hge1 : -100000000 ≤ g * e ∧ g * e ≤ 9999999900000000 := by
        rcases ilt_or g 0 with h | h
        · have : g = -1 := by omega
          subst this; omega
        · have p1 := Int.mul_nonneg h heB.1
          have p2 : g * e ≤ 100000000 * e := Int.mul_le_mul_of_nonneg_right hg.2 heB.1
          omega
      have hv' : Sl H' v vs := hv.other hvb hV.other
      have hdr := drop_of_get hz
      rw [hdr] at hV
      have hget : (A ++ (L ++ (z :: U.drop (i + 1) ++ t0 :: Z)))[o + i]? = some z := by
        rw [List.getElem?_append_right (by omega), List.getElem?_append_right (by omega), hA, hL]
        simp
      have hlen : o + i < (A ++ (L ++ (z :: U.drop (i + 1) ++ t0 :: Z))).length := (List.getElem?_eq_some_iff.1 hget).1
      refine ⟨_, idx_sl hT (v := v) (n := (i : Int)) (k := i) rfl rfl hv' rfl (by omega), ?_⟩
      refine ⟨_, load_sl hT hv' he, ?_⟩
      refine ⟨_, idx_off hT (b := b) (o := o) (l := n + 1) (c := c) (n := (i : Int)) (k := i) rfl rfl rfl (by omega), ?_⟩
      refine ⟨_, load_off hT hV.at_ hget, ?_⟩
      refine ⟨⟨by omega, by omega⟩, ?_⟩
      refine ⟨⟨by omega, by omega⟩, ?_⟩
      refine ⟨⟨by omega, by omega⟩, ?_⟩
      obtain ⟨t, htt⟩ : ∃ t, z - g * e + w = t := ⟨_, rfl⟩
      have tqt := tq t
      have em := emod_of t
      refine ⟨⟨by decide, by rw [htt]; unfold In64; omega⟩, ?_⟩
      refine ⟨by decide, ?_⟩
      refine ⟨_, idx_off hT (b := b) (o := o) (l := n + 1) (c := c) (n := (i : Int)) (k := i) rfl rfl rfl (by omega), ?_⟩
      refine ⟨_, store_off hT hV.at_ hlen, ?_⟩
      let H1 : Heap := H'.set b (.cells true 3 (ints ((A ++ (L ++ (z :: U.drop (i + 1) ++ t0 :: Z))).set (o + i) ((z - g * e + w).tmod 100000000))))
      have hW : Upd H' b (.cells true 3 (ints ((A ++ (L ++ (z :: U.drop (i + 1) ++ t0 :: Z))).set (o + i) ((z - g * e + w).tmod 100000000)))) H1 := upd_set (by omega) (by omega)
      have hset : ∀ y z : Int, (A ++ (L ++ (z :: U.drop (i + 1) ++ t0 :: Z))).set (o + i) y = A ++ (L ++ (y :: U.drop (i + 1) ++ t0 :: Z)) := fun y z => by
        rw [List.set_append_right _ _ (by omega), List.set_append_right _ _ (by omega), hA, hL]
        simp
      have hn1 := hW.n
      rw [hset, htt] at hW
      have hget1 : (A ++ (L ++ (t.tmod 100000000 :: U.drop (i + 1) ++ t0 :: Z)))[o + i]? = some (t.tmod 100000000) := by
        rw [List.getElem?_append_right (by omega), List.getElem?_append_right (by omega), hA, hL]
        simp
      have hlen1 : o + i < (A ++ (L ++ (t.tmod 100000000 :: U.drop (i + 1) ++ t0 :: Z))).length := (List.getElem?_eq_some_iff.1 hget1).1
      refine ⟨_, idx_off hT (b := b) (o := o) (l := n + 1) (c := c) (n := (i : Int)) (k := i) rfl rfl rfl (by omega), ?_⟩
      refine ⟨_, load_off (H := H1) hT hW.at_ hget1, ?_⟩
      have next : ∀ (y w' : Int), y = (if t.tmod 100000000 < 0 then t.tmod 100000000 + 100000000 else t.tmod 100000000) → w' = (if t.tmod 100000000 < 0 then t.tdiv 100000000 - 1 else t.tdiv 100000000) →
          (L ++ [y]).length = i + 1 ∧ Dig (L ++ [y]) ∧ val (L ++ [y]) + pw (i + 1) * w' = val (U.take (i + 1)) - g * val (vs.take (i + 1)) ∧ -100000001 ≤ w' ∧ w' ≤ 2 := by
        intro y w' hy hw'
        rw [← hy, ← hw'] at em
        refine ⟨by simp [hL], ?_, ?_, by omega, by omega⟩
        · intro q hq
          rcases List.mem_append.1 hq with hq | hq
          · exact dL q hq
          · have : q = y := by simpa using hq
            subst this; omega
        · rw [val_snoc, hL, take_snoc hz, take_snoc he, val_snoc, val_snoc, List.length_take, List.length_take, Nat.min_eq_left (by omega), Nat.min_eq_left (by omega), pw_succ]
          have e1 : y + 100000000 * w' = z - g * e + w := by omega
          have e2 : pw i * y + 100000000 * pw i * w' = pw i * (z - g * e + w) := by rw [← e1]; grind
          have e3 : pw i * (z - g * e + w) = pw i * z - g * (pw i * e) + pw i * w := by grind
          have e4 : g * (val (vs.take i) + pw i * e) = g * val (vs.take i) + g * (pw i * e) := Int.mul_add _ _ _
          omega
      refine ⟨fun hneg => ?_, fun hpos => ?_⟩
      · refine ⟨_, idx_off hT (b := b) (o := o) (l := n + 1) (c := c) (n := (i : Int)) (k := i) rfl rfl rfl (by omega), ?_⟩
        refine ⟨_, load_off (H := H1) hT hW.at_ hget1, ?_⟩
        refine ⟨⟨by omega, by omega⟩, ?_⟩
        refine ⟨_, idx_off hT (b := b) (o := o) (l := n + 1) (c := c) (n := (i : Int)) (k := i) rfl rfl rfl (by omega), ?_⟩
        refine ⟨_, store_off (H := H1) hT hW.at_ hlen1, ?_⟩
        let H2 : Heap := H1.set b (.cells true 3 (ints ((A ++ (L ++ (t.tmod 100000000 :: U.drop (i + 1) ++ t0 :: Z))).set (o + i) (t.tmod 100000000 + 100000000))))
        have hX : Upd H1 b (.cells true 3 (ints ((A ++ (L ++ (t.tmod 100000000 :: U.drop (i + 1) ++ t0 :: Z))).set (o + i) (t.tmod 100000000 + 100000000)))) H2 := upd_set (by omega) (by omega)
        refine ⟨⟨by rw [htt]; omega, by rw [htt]; omega⟩, ?_⟩
        refine ⟨⟨by omega, by omega⟩, ?_⟩
        obtain ⟨k1, k2, k3, k4, k5⟩ := next (t.tmod 100000000 + 100000000) (t.tdiv 100000000 - 1) (by rw [if_pos hneg]) (by rw [if_pos hneg])
        refine ⟨n - (i + 1), by omega, i + 1, _, _, L ++ [t.tmod 100000000 + 100000000], H2, _, _, _, _, _, _, _, _, _, _, _, _, _, _, _, _, _, _, _, _, _, _, _, _, _, _, _, _, _, _, _, _, _, _, _, _, _, _, _, _, _, _, _, _, _, _, _, _, _, _, _, _, _, _, _, rfl, rfl, rfl, by omega, k1, k2, by rw [htt]; exact k3, by rw [htt]; exact k4, by rw [htt]; exact k5, ?_⟩
        rw [hset] at hX
        have := hV.trans (hW.trans hX)
        simpa using this
      · skip
        refine ⟨⟨by omega, by omega⟩, ?_⟩
        obtain ⟨k1, k2, k3, k4, k5⟩ := next (t.tmod 100000000) (t.tdiv 100000000) (by rw [if_neg (by omega)]) (by rw [if_neg (by omega)])
        refine ⟨n - (i + 1), by omega, i + 1, _, _, L ++ [t.tmod 100000000], H1, _, _, _, _, _, _, _, _, _, _, _, _, _, _, _, _, _, _, _, _, _, _, _, _, _, _, _, _, _, _, _, _, _, _, _, _, _, _, _, _, _, _, _, _, _, _, _, _, _, _, _, _, _, _, _, rfl, rfl, rfl, by omega, k1, k2, by rw [htt]; exact k3, by rw [htt]; exact k4, by rw [htt]; exact k5, ?_⟩
        have := hV.trans hW
        simpa using this
    · have hin : i = n := by omega
      subst hin
      rw [List.drop_of_length_le (by omega), List.nil_append] at hV
      rw [List.take_of_length_le (by omega), List.take_of_length_le (by omega)] at hval
      have hget : (A ++ (L ++ t0 :: Z))[o + i]? = some t0 := by
        rw [List.getElem?_append_right (by omega), List.getElem?_append_right (by omega), hA, hL]
        simp
      have hlen : o + i < (A ++ (L ++ t0 :: Z)).length := (List.getElem?_eq_some_iff.1 hget).1
      have hset : (A ++ (L ++ t0 :: Z)).set (o + i) (t0 + w) = A ++ (L ++ (t0 + w) :: Z) := by
        rw [List.set_append_right _ _ (by omega), List.set_append_right _ _ (by omega), hA, hL]
        simp
      refine ⟨_, idx_off hT (b := b) (o := o) (l := i + 1) (c := c) (n := (i : Int)) (k := i) rfl rfl rfl (by omega), ?_⟩
      refine ⟨_, load_off hT hV.at_ hget, ?_⟩
      refine ⟨⟨by omega, by omega⟩, ?_⟩
      refine ⟨_, idx_off hT (b := b) (o := o) (l := i + 1) (c := c) (n := (i : Int)) (k := i) rfl rfl rfl (by omega), ?_⟩
      refine ⟨_, store_off hT hV.at_ hlen, ?_⟩
      let H1 : Heap := H'.set b (.cells true 3 (ints ((A ++ (L ++ t0 :: Z)).set (o + i) (t0 + w))))
      have hW : Upd H' b (.cells true 3 (ints ((A ++ (L ++ t0 :: Z)).set (o + i) (t0 + w)))) H1 := upd_set (by omega) (by omega)
      rw [hset] at hW
      have hget1 : (A ++ (L ++ (t0 + w) :: Z))[o + i]? = some (t0 + w) := by
        rw [List.getElem?_append_right (by omega), List.getElem?_append_right (by omega), hA, hL]
        simp
      refine ⟨_, idx_off hT (b := b) (o := o) (l := i + 1) (c := c) (n := (i : Int)) (k := i) rfl rfl rfl (by omega), ?_⟩
      refine ⟨_, load_off (H := H1) hT hW.at_ hget1, ?_⟩
      have hfin : ∃ L t, iv (t0 + w) = iv t ∧ L.length = i ∧ Dig L ∧ val L + pw i * t = val U + pw i * t0 - g * val vs ∧ -300000000 ≤ t ∧ t ≤ 300000000 ∧ Upd H b (.cells true 3 (ints (A ++ (L ++ t :: Z)))) H1 :=
        ⟨L, t0 + w, rfl, hL, dL, by rw [Int.mul_add]; omega, by omega, by omega, hV.trans hW⟩
      exact hfin
end Go.PI
