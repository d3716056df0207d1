/- Own work of the verifier: CiQuo2 CiRef1 CiRef2. -/
import Derived.Test.YtdflpkkgjppmgaaGreatCfBE
set_option linter.all false
set_option exponentiation.threshold 3000
set_option linter.deprecated false
/- quotient, all cases; divide. -/
open Go.Proofs
namespace Go.PI
open IM
theorem fn166 : ctx.fn 166 = some c166 := by kernel_rfl
set_option maxRecDepth 10000
set_option maxHeartbeats 4000000
variable (S : FuncId → Option (List AV → Heap → Option (AV × Heap)))
theorem val_pos {ys : List Int} (dy : Dig ys) (ty : Top ys) (hy0 : ys ≠ []) : 0 < val ys := by
  have := (nrm_len dy ty hy0).1
  have := pw_pos (ys.length - 1)
  omega
theorem lt_len {xs ys : List Int} (dx : Dig xs) (dy : Dig ys) (ty : Top ys) (hl : xs.length < ys.length) : val xs < val ys := by
  have h1 := dx.val.2
  have h2 := (nrm_len dy ty (by intro h; subst h; simp at hl)).1
  have h3 := pw_mono (show xs.length ≤ ys.length - 1 by omega)
  omega
theorem clone_new (h164 : S 164 = none) {H : Heap} {x : AV} {xs : List Int} (hn : H.n + 4 < lim) (hx : Sl H x xs) (hl : xs.length ≤ 1000000) :
    Cl (ctx.plus S) 164 [x] H fun r H' => Nw H r xs H' ∧ Kp H H' 8 := by
  refine (clone_run S h164 hn hx hl).mono ?_
  rintro r H' (⟨rfl, rfl, rfl⟩ | ⟨-, hM, hm⟩)
  · exact ⟨.inl ⟨rfl, hx, Nat.le_refl _⟩, Kp.refl _ _⟩
  · exact ⟨.inr hM, (hM.kp hm).le (by omega)⟩
theorem quotient_new (hS : OldI S) {H : Heap} {x y : AV} {xs ys : List Int} (hn : H.n + 100 < lim) (hx : Sl H x xs) (hy : Sl H y ys) (hxl : xs.length ≤ 999980) (hyl : ys.length ≤ 999980) (dx : Dig xs) (tx : Top xs) (dy : Dig ys) (ty : Top ys) (hy0 : ys ≠ []) :
    Cl (ctx.plus S) 191 [x, y] H fun r H' => ∃ q w, r = .tup [q, w] ∧ Nw H q (digits (val xs / val ys)) H' ∧ Nw H w (digits (val xs % val ys)) H' ∧ Kp H H' 60 := by
  have hv := val_pos dy ty hy0
  have hpos := List.length_pos_iff.2 hy0
  have hT : (ctx.plus S).ty = tget := rfl
  have cl : xs.length < ys.length → ∀ r H', Nw H r xs H' ∧ Kp H H' 8 → ∃ q w, AV.tup [.nils, r] = .tup [q, w] ∧ Nw H q (digits (val xs / val ys)) H' ∧ Nw H w (digits (val xs % val ys)) H' ∧ Kp H H' 60 := by
    rintro hl r H' ⟨h1, h2⟩
    have hlt := lt_len dx dy ty hl
    have hx0 := dx.val.1
    refine ⟨.nils, r, rfl, ?_, ?_, h2.le (by omega)⟩
    · rw [Int.ediv_eq_zero_of_lt hx0 hlt]; exact .inl ⟨rfl, rfl, h2.n⟩
    · rw [Int.emod_eq_of_lt hx0 hlt, digits_val (dx.nrm tx)]; exact h1
  by_cases hx2 : xs.length ≤ 2
  · by_cases hy2 : ys.length ≤ 2
    · exact quotient_small S hS hn hx hy hx2 hy2 dx dy hv
    · refine cl_of hS.h191 fn191 ?_
      refine ⟨_, len_sl hT (v := x) rfl hx, ?_⟩
      refine ⟨fun h1 => ?_, fun h1 => absurd h1 (by omega)⟩
      refine ⟨_, len_sl hT (v := y) rfl hy, ?_⟩
      refine ⟨fun h2 => absurd h2 (by omega), fun h2 => ?_⟩
      refine ⟨_, len_sl hT (v := x) rfl hx, ?_⟩
      refine ⟨_, len_sl hT (v := y) rfl hy, ?_⟩
      refine ⟨fun _ => ?_, fun h1 => absurd h1 (by omega)⟩
      refine (clone_new S hS.h164 (by omega) hx (by omega)).mono ?_
      exact cl (by omega)
  · by_cases hxy : xs.length < ys.length
    · refine cl_of hS.h191 fn191 ?_
      refine ⟨_, len_sl hT (v := x) rfl hx, ?_⟩
      refine ⟨fun h1 => absurd h1 (by omega), fun _ => ?_⟩
      refine ⟨_, len_sl hT (v := x) rfl hx, ?_⟩
      refine ⟨_, len_sl hT (v := y) rfl hy, ?_⟩
      refine ⟨fun _ => ?_, fun h1 => absurd h1 (by omega)⟩
      refine (clone_new S hS.h164 (by omega) hx (by omega)).mono ?_
      exact cl hxy
    · by_cases hy1 : ys.length = 1
      · obtain ⟨d, rfl⟩ : ∃ d, ys = [d] := List.length_eq_one_iff.1 hy1
        have hd := dy d (by simp)
        have hvd : val [d] = d := by simp [val]
        rw [hvd] at hv ⊢
        refine cl_of hS.h191 fn191 ?_
        refine ⟨_, len_sl hT (v := x) rfl hx, ?_⟩
        refine ⟨fun h1 => absurd h1 (by omega), fun _ => ?_⟩
        refine ⟨_, len_sl hT (v := x) rfl hx, ?_⟩
        refine ⟨_, len_sl hT (v := y) rfl hy, ?_⟩
        refine ⟨fun h1 => absurd h1 (by omega), fun _ => ?_⟩
        refine ⟨_, len_sl hT (v := y) rfl hy, ?_⟩
        refine ⟨fun _ => ?_, fun h1 => absurd hy1 (by omega)⟩
        refine ⟨_, idx_sl hT (v := y) (n := 0) (k := 0) rfl rfl hy rfl (by simp), ?_⟩
        refine ⟨_, load_sl hT hy (k := 0) (x := d) rfl, ?_⟩
        refine (short1_new S hS.h206 hS.o.h156 hS.h204 hS.h210 (x := x) (xs := xs) (d := d) (by omega) hx (by omega) dx (by omega)).mono ?_
        rintro _ H1 ⟨q, rfl, hq, k1⟩
        have k1m := k1.m
        have hm1 := Int.emod_nonneg (val xs) (show d ≠ 0 by omega)
        have hm2 := Int.emod_lt_of_pos (val xs) hv
        refine (of_run2 S hS.o hS.h78 (H := H1) (n := val xs % d) (by omega) (by unfold In64; omega)).mono ?_
        rintro r H2 ⟨hM, hn2⟩
        have k2 := hM.kp hn2
        exact ⟨q, r, rfl, .inr (hq.lift (Kp.refl _ _ : Kp H H 0) k2), .inr (hM.lift k1 (Kp.refl _ _ : Kp H2 H2 0)), k1.trans k2 (by omega)⟩
      · exact quotient_main S hS hn hx hy hxl (by omega) (by omega) (by omega) dx dy ty
theorem IM.Nrm.sml' {xs : List Int} (h : Nrm xs) : Sml xs := fun x hx => by
  rcases h.1 with h1 | h1 <;> have := h1 x hx <;> omega
theorem abs_digits {xs : List Int} (h : Nrm xs) : (sgnL xs < 0 → negL xs = digits ((val xs).natAbs : Int)) ∧ (¬ sgnL xs < 0 → xs = digits ((val xs).natAbs : Int)) := by
  have e := digits_val h
  rcases sgn_val h with ⟨a1, a2, a3⟩ | ⟨a1, a2, a3, -⟩ | ⟨a1, a2, a3, -⟩
  · refine ⟨fun h => by omega, fun _ => ?_⟩
    rw [a3, a2]; rfl
  · refine ⟨fun h => by omega, fun _ => ?_⟩
    conv => lhs; rw [← e]
    congr 1; omega
  · refine ⟨fun _ => ?_, fun h => by omega⟩
    unfold negL
    rw [← e, negd, e]
    congr 1; omega
theorem abs_len {xs : List Int} (h : Nrm xs) : (digits ((val xs).natAbs : Int)).length = xs.length := by
  obtain ⟨h1, h2⟩ := abs_digits h
  by_cases hs : sgnL xs < 0
  · rw [← h1 hs]; simp [negL]
  · rw [← h2 hs]
theorem digits_len_le {v w : Int} (hv : 0 ≤ v) (h : v ≤ w) : (digits v).length ≤ (digits w).length := by
  rcases Nat.lt_or_ge (digits w).length (digits v).length with hl | hl
  · exfalso
    have dv : Dig (digits v) := nrm_pos (nrm_digits v) (by rw [val_digits]; exact hv)
    have dw : Dig (digits w) := nrm_pos (nrm_digits w) (by rw [val_digits]; omega)
    have := lt_len dw dv (nrm_digits v).2 hl
    rw [val_digits, val_digits] at this
    omega
  · exact hl
theorem div_signs {X Y : Int} (hY : Y ≠ 0) : (0 ≤ X → X % Y = (X.natAbs : Int) % (Y.natAbs : Int)) ∧
    (X < 0 → (X.natAbs : Int) % (Y.natAbs : Int) = 0 → X % Y = 0) ∧
    (X < 0 → (X.natAbs : Int) % (Y.natAbs : Int) ≠ 0 → X % Y = (Y.natAbs : Int) - (X.natAbs : Int) % (Y.natAbs : Int)) ∧
    (0 ≤ X → 0 < Y → X / Y = (X.natAbs : Int) / (Y.natAbs : Int)) ∧ (0 ≤ X → Y < 0 → X / Y = - ((X.natAbs : Int) / (Y.natAbs : Int))) ∧
    (X < 0 → 0 < Y → (X.natAbs : Int) % (Y.natAbs : Int) = 0 → X / Y = - ((X.natAbs : Int) / (Y.natAbs : Int))) ∧ (X < 0 → Y < 0 → (X.natAbs : Int) % (Y.natAbs : Int) = 0 → X / Y = (X.natAbs : Int) / (Y.natAbs : Int)) ∧
    (X < 0 → 0 < Y → (X.natAbs : Int) % (Y.natAbs : Int) ≠ 0 → X / Y = - ((X.natAbs : Int) / (Y.natAbs : Int) + 1)) ∧ (X < 0 → Y < 0 → (X.natAbs : Int) % (Y.natAbs : Int) ≠ 0 → X / Y = (X.natAbs : Int) / (Y.natAbs : Int) + 1) := by
  obtain ⟨a, ha⟩ : ∃ a : Int, (X.natAbs : Int) = a := ⟨_, rfl⟩
  obtain ⟨b, hb⟩ : ∃ b : Int, (Y.natAbs : Int) = b := ⟨_, rfl⟩
  rw [ha, hb]
  have hb0 : 0 < b := by omega
  have e1 := Int.mul_ediv_add_emod a b
  have e2 := Int.emod_nonneg a (show b ≠ 0 by omega)
  have e3 := Int.emod_lt_of_pos a hb0
  have yc : Y = b ∨ Y = -b := by omega
  have xc : (X = a ∧ 0 ≤ X) ∨ (X = -a ∧ X < 0) := by omega
  have n1 : X < 0 → a % b = 0 → X / b = -(a / b) ∧ X % b = 0 := fun h h0 => divmod_of (by rw [Int.neg_mul, Int.mul_comm]; omega) (by omega) hb0
  have n2 : X < 0 → a % b ≠ 0 → X / b = -(a / b + 1) ∧ X % b = b - a % b := fun h h0 => divmod_of (by rw [Int.neg_mul, Int.add_mul, Int.mul_comm]; omega) (by omega) (by omega)
  rcases yc with rfl | rfl
  · rcases xc with ⟨rfl, h⟩ | ⟨h', h⟩
    · refine ⟨fun _ => rfl, fun h => by omega, fun h => by omega, fun _ _ => rfl, fun _ h => by omega, fun h => by omega, fun h => by omega, fun h => by omega, fun h => by omega⟩
    · exact ⟨fun h => by omega, fun _ h0 => (n1 h h0).2, fun _ h0 => (n2 h h0).2, fun h => by omega, fun h => by omega, fun _ _ h0 => (n1 h h0).1, fun _ h => by omega, fun _ _ h0 => (n2 h h0).1, fun _ h => by omega⟩
  · rw [Int.emod_neg, Int.ediv_neg]
    rcases xc with ⟨rfl, h⟩ | ⟨h', h⟩
    · refine ⟨fun _ => rfl, fun h => by omega, fun h => by omega, fun _ h => by omega, fun _ _ => rfl, fun h => by omega, fun h => by omega, fun h => by omega, fun h => by omega⟩
    · exact ⟨fun h => by omega, fun _ h0 => (n1 h h0).2, fun _ h0 => (n2 h h0).2, fun h => by omega, fun h => by omega, fun _ h => by omega, fun _ _ h0 => by rw [(n1 h h0).1]; omega, fun _ h => by omega, fun _ _ h0 => by rw [(n2 h h0).1]; omega⟩
theorem dig_digits {v : Int} (h : 0 ≤ v) : Dig (digits v) := nrm_pos (nrm_digits v) (by rw [val_digits]; exact h)
theorem len_of {v : Int} {k : Nat} (h : -pw k < v ∧ v < pw k) : (digits v).length ≤ k := by
  have key : ∀ w : Int, 0 ≤ w → w < pw k → (digits w).length ≤ k := fun w h0 h1 => by
    rcases Nat.lt_or_ge k (digits w).length with hl | hl
    · exfalso
      have := (nrm_len (dig_digits h0) (nrm_digits w).2 (by intro h; rw [h] at hl; simp at hl)).1
      rw [val_digits] at this
      have := pw_mono (show k ≤ (digits w).length - 1 by omega)
      omega
    · exact hl
  rcases ilt_or v 0 with h0 | h0
  · have := abs_len (nrm_digits v)
    rw [val_digits] at this
    rw [← this]
    exact key _ (by omega) (by omega)
  · exact key v h0 h.2
end Go.PI
/- The reference of the integers: split, trim, signed, Negative, size. -/
open Go.Proofs
namespace Go.PI
open IM
theorem fn124 : ctx.fn 124 = some c124 := by kernel_rfl
theorem fn125 : ctx.fn 125 = some c125 := by kernel_rfl
theorem fn126 : ctx.fn 126 = some c126 := by kernel_rfl
theorem fn142 : ctx.fn 142 = some c142 := by kernel_rfl
theorem fn143 : ctx.fn 143 = some c143 := by kernel_rfl
set_option maxRecDepth 10000
set_option maxHeartbeats 4000000
variable (S : FuncId → Option (List AV → Heap → Option (AV × Heap)))
theorem split_run (h124 : S 124 = none) {H : Heap} {e : Int} (he : In64 e) : Cl (ctx.plus S) 124 [iv e] H fun r H' => r = .tup [iv (e / 100000000), iv (e % 100000000)] ∧ H = H' := by
  refine cl_of h124 fn124 ?_
  unfold In64 at he
  have t := tq e
  refine ⟨⟨by decide, by omega, by omega⟩, ?_⟩
  refine ⟨by decide, ?_⟩
  refine ⟨fun hn => ?_, fun hn => ?_⟩
  · refine ⟨⟨by omega, by omega⟩, ?_⟩
    refine ⟨⟨by omega, by omega⟩, ?_⟩
    have e1 : e.tdiv 100000000 - 1 = e / 100000000 := by omega
    have e2 : e.tmod 100000000 + 100000000 = e % 100000000 := by omega
    have hfin : AV.tup [iv (e.tdiv 100000000 - 1), iv (e.tmod 100000000 + 100000000)] = .tup [iv (e / 100000000), iv (e % 100000000)] ∧ H = H := by rw [e1, e2]; exact ⟨rfl, rfl⟩
    exact hfin
  · have e1 : e.tdiv 100000000 = e / 100000000 := by omega
    have e2 : e.tmod 100000000 = e % 100000000 := by omega
    have hfin : AV.tup [iv (e.tdiv 100000000), iv (e.tmod 100000000)] = .tup [iv (e / 100000000), iv (e % 100000000)] ∧ H = H := by rw [e1, e2]; exact ⟨rfl, rfl⟩
    exact hfin
structure RV (H : Heap) (v : AV) (xs : List Int) : Prop where
  sl : Sl H v xs
  cp : Cp v
  ns : v ≠ .sle
theorem RV.kp {H H' : Heap} {v : AV} {xs : List Int} {c : Nat} (h : RV H v xs) (k : Kp H H' c) : RV H' v xs := ⟨h.sl.kp k, h.cp, h.ns⟩
theorem Ow.rv {H : Heap} {v : AV} {b : Nat} {zs : List Int} {l : Nat} (h : Ow H v b zs l) : RV H v (zs.take l) := by
  refine ⟨h.sl, h.cp, ?_⟩
  obtain ⟨-, -, ⟨c, rfl, -, -⟩ | rfl⟩ := h <;> simp
theorem Mine.rv {H0 H : Heap} {b0 : Nat} {v : AV} {xs : List Int} (h : Mine H0 b0 v xs H) : RV H v xs := by
  obtain ⟨-, -, b, zs, hO, hx, -⟩ := h
  have := hO.rv
  rwa [hx] at this
theorem rv_nil (H : Heap) : RV H .nils [] := ⟨rfl, trivial, by simp⟩
theorem slice_to {C : Ctx} (hT : C.ty = tget) {ρ : Operand → Option AV} {x y : Operand} {H : Heap} {v : AV} {xs : List Int} {k : Nat} (hx : ρ x = some v) (hy : ρ y = some (iv k)) (h : RV H v xs) (hk : k ≤ xs.length) :
    ∃ r, pureE C ρ (.slice 22 x none (some y) none) = some r ∧ Sl H r (xs.take k) := by
  obtain ⟨h, hc, hs⟩ := h
  have key : ∀ {b o l : Nat}, l = xs.length → (∃ rw ty cs, H.get b = .cells rw ty cs ∧ o + l ≤ cs.length ∧ (cs.drop o).take l = ints xs) → ∃ rw ty cs, H.get b = .cells rw ty cs ∧ o + k ≤ cs.length ∧ (cs.drop o).take k = ints (xs.take k) := by
    rintro b o l rfl ⟨rw, ty, cs, h1, h2, h3⟩
    refine ⟨rw, ty, cs, h1, by omega, ?_⟩
    rw [← ints_take, ← h3, List.take_take, Nat.min_eq_left hk]
  unfold Sl at h
  split at h
  · subst h
    simp at hk
    subst hk
    refine ⟨.nils, ?_, rfl⟩
    simp only [pureE, hx, hy, ty22 hT, t22, ty3 hT, bound]
    simp
  · exact absurd rfl hs
  · rename_i b o l c
    obtain ⟨rfl, h2⟩ := h
    have hc : xs.length ≤ c := hc
    have hkk : (0 : Int) ≤ (k : Int) ∧ (k : Int) ≤ (c : Int) := by omega
    refine ⟨.sl b o k c, ?_, by simp; omega, key rfl h2⟩
    simp only [pureE, hx, hy, ty22 hT, t22, ty3 hT, bound, hkk, and_self, if_true, Int.toNat_natCast]
    simp [t3]
  · rename_i b o l e
    obtain ⟨rfl, rfl, h2⟩ := h
    have hkk : (0 : Int) ≤ (k : Int) ∧ (k : Int) ≤ (xs.length : Int) := by omega
    refine ⟨.slu b o k 1, ?_, rfl, by simp; omega, key rfl h2⟩
    simp only [pureE, hx, hy, ty22 hT, t22, ty3 hT, bound, hkk, and_self, if_true, Int.toNat_natCast]
    by_cases hl : 0 < xs.length
    · simp [t3, hl]
    · simp [t3, hl]
  · exact h.elim
theorem rtrim_run (h125 : S 125 = none) {H : Heap} {x : AV} {xs : List Int} (hn : H.n + 8 < lim) (hx : RV H x xs) (hl : xs.length ≤ 1000000) :
    Cl (ctx.plus S) 125 [x] H fun r H' => Mine H H.n r (trimL xs) H' ∧ H'.n ≤ H.n + 2 := by
  refine cl_of h125 fn125 ?_
  have hT : (ctx.plus S).ty = tget := rfl
  refine ⟨_, len_sl hT (v := x) rfl hx.sl, ?_⟩
  refine ⟨fun m s => ∃ (i : Nat) (n : Int) (j1 j2 j4 j5 j6 j7 j8 j9 j10 j11 j12 j13 j14 j15 j16 j17 j18 j19 j20 j21 j22 : AV),
    s = ⟨[x, j1, j2, iv n, j4, j5, j6, j7, j8, j9, j10, j11, j12, j13, j14, j15, j16, j17, j18, j19, j20, j21, j22], H, []⟩ ∧ m = i ∧ n = i ∧ i ≤ xs.length ∧ (∀ j, i ≤ j → j < xs.length → xs[j]? = some 0), ⟨xs.length, ?_⟩, ?_⟩
  · exact ⟨xs.length, _, _, _, _, _, _, _, _, _, _, _, _, _, _, _, _, _, _, _, _, _, _, rfl, rfl, rfl, Nat.le_refl _, fun j h1 h2 => by omega⟩
  · rintro m s ⟨i, n, j1, j2, j4, j5, j6, j7, j8, j9, j10, j11, j12, j13, j14, j15, j16, j17, j18, j19, j20, j21, j22, rfl, hm, rfl, hi, hz⟩
    have fin : (i = 0 ∨ ∃ x, xs[i - 1]? = some x ∧ x ≠ 0) → ∃ v, pureE (ctx.plus S) (fun o => match o with | .tmp 19 => some x | _ => some (iv i)) (.slice 22 (.tmp 19) none (some (.tmp 20)) none) = some v ∧ Sl H v (trimL xs) := fun ht => by
      obtain ⟨r, hr, hs⟩ := slice_to hT (C := ctx.plus S) (ρ := fun o => match o with | .tmp 19 => some x | _ => some (iv i)) (x := .tmp 19) (y := .tmp 20) (k := i) rfl rfl hx hi
      rw [trim_is hi hz ht]
      exact ⟨r, hr, hs⟩
    have app : ∀ v, Sl H v (trimL xs) → ∃ r H', appendE (ctx.plus S) [22, 22] (.sl H.n 0 0 0) v (H.push (.cells true 3 [])) = some (r, H') ∧ Mine H H.n r (trimL xs) H' ∧ H'.n ≤ H.n + 2 := fun v hv =>
      append_empty hT (by omega) hv (by have := (trim_take xs).2.2; omega)
    refine ⟨fun hpos => ?_, fun hz0 => ?_⟩
    · obtain ⟨e, he⟩ : ∃ e, xs[i - 1]? = some e := ⟨xs[i - 1]'(by omega), List.getElem?_eq_getElem _⟩
      refine ⟨⟨by omega, by omega⟩, ?_⟩
      refine ⟨_, idx_sl hT (v := x) (n := (i : Int) - 1) (k := i - 1) rfl rfl hx.sl (by omega) (by omega), ?_⟩
      refine ⟨_, load_sl hT hx.sl he, ?_⟩
      refine ⟨fun h0 => ?_, fun h0 => ?_⟩
      · subst h0
        refine ⟨⟨by omega, by omega⟩, ?_⟩
        refine ⟨i - 1, by omega, i - 1, _, _, _, _, _, _, _, _, _, _, _, _, _, _, _, _, _, _, _, _, _, _, rfl, rfl, by omega, by omega, fun j h1 h2 => ?_⟩
        by_cases hj : j = i - 1
        · rw [hj]; exact he
        · exact hz j (by omega) h2
      · obtain ⟨v, hv, hs⟩ := fin (.inr ⟨e, he, h0⟩)
        obtain ⟨r, H', hr, hM, hn'⟩ := app v hs
        refine ⟨by omega, _, _, rfl, ?_⟩
        refine ⟨v, hv, ?_⟩
        exact ⟨r, H', hr, hM, hn'⟩
    · have hi0 : i = 0 := by omega
      obtain ⟨v, hv, hs⟩ := fin (.inl hi0)
      obtain ⟨r, H', hr, hM, hn'⟩ := app v hs
      refine ⟨by omega, _, _, rfl, ?_⟩
      refine ⟨v, hv, ?_⟩
      exact ⟨r, H', hr, hM, hn'⟩
theorem rnegative_run (h143 : S 143 = none) {H : Heap} {x : AV} {xs : List Int} (hx : Sl H x xs) (hl : xs.length ≤ 1000000) (nx : Nrm xs) : Cl (ctx.plus S) 143 [x] H fun r H' => r = .bool (decide (val xs < 0)) ∧ H = H' := by
  refine cl_of h143 fn143 ?_
  have hT : (ctx.plus S).ty = tget := rfl
  refine ⟨_, len_sl hT (v := x) rfl hx, ?_⟩
  refine ⟨fun hp => ?_, fun hp => ?_⟩
  · refine ⟨_, len_sl hT (v := x) rfl hx, ?_⟩
    refine ⟨⟨by omega, by omega⟩, ?_⟩
    obtain ⟨e, he⟩ : ∃ e, xs[xs.length - 1]? = some e := ⟨xs[xs.length - 1]'(by omega), List.getElem?_eq_getElem _⟩
    refine ⟨_, idx_sl hT (v := x) (n := (xs.length : Int) - 1) (k := xs.length - 1) rfl rfl hx (by omega) (by omega), ?_⟩
    refine ⟨_, load_sl hT hx he, ?_⟩
    have hs : sgnL xs = if e < 0 then -1 else 1 := by
      unfold sgnL
      rw [List.getLast?_eq_getElem?, he]
    refine ⟨fun hn => ?_, fun hn => ?_⟩
    · rw [if_pos hn] at hs
      have : val xs < 0 := by rcases sgn_val nx with ⟨a, -, b⟩ | ⟨a, -, b, -⟩ | ⟨a, -, b, -⟩ <;> omega
      have hfin : AV.bool true = .bool (decide (val xs < 0)) ∧ H = H := by rw [decide_eq_true this]; exact ⟨rfl, rfl⟩
      exact hfin
    · rw [if_neg (by omega)] at hs
      have : ¬ val xs < 0 := by rcases sgn_val nx with ⟨a, -, b⟩ | ⟨a, -, b, -⟩ | ⟨a, -, b, -⟩ <;> omega
      have hfin : AV.bool false = .bool (decide (val xs < 0)) ∧ H = H := by rw [decide_eq_false this]; exact ⟨rfl, rfl⟩
      exact hfin
  · have h0 : xs = [] := List.eq_nil_of_length_eq_zero (by omega)
    subst h0
    exact ⟨rfl, rfl⟩
theorem signed_run (h126 : S 126 = none) (h125 : S 125 = none) {H : Heap} {x : AV} {xs : List Int} {β : Bool} (hn : H.n + 8 < lim) (hx : RV H x xs) (hl : xs.length ≤ 1000000) (hr : ∀ e ∈ xs, In64 (0 - e)) :
    Cl (ctx.plus S) 126 [x, .bool β] H fun r H' => Mine H H.n r (if β = true then negL (trimL xs) else trimL xs) H' ∧ H'.n ≤ H.n + 2 := by
  refine cl_of h126 fn126 ?_
  have hT : (ctx.plus S).ty = tget := rfl
  refine (rtrim_run S h125 hn hx hl).mono ?_
  rintro t H1 ⟨hM, hn1⟩
  have hl1 := (trim_take xs).2.2
  obtain ⟨us, hus⟩ : ∃ us, trimL xs = us := ⟨_, rfl⟩
  have hru : ∀ e ∈ us, In64 (0 - e) := fun e he => hr e (trim_mem xs e (by rw [hus]; exact he))
  rw [hus] at hM hl1 ⊢
  refine ⟨fun m s => ∃ (i : Nat) (n : Int) (H' : Heap) (j2 j3 j4 j7 j8 j9 j10 j11 j12 j13 j14 j15 j16 j17 j18 j19 j20 j21 j22 j23 j24 j25 j26 : AV),
    s = ⟨[x, .bool β, j2, j3, j4, t, iv n, j7, j8, j9, j10, j11, j12, j13, j14, j15, j16, j17, j18, j19, j20, j21, j22, j23, j24, j25, j26], H', []⟩ ∧ m = us.length - i ∧ n = i ∧ i ≤ us.length ∧ (β = false → i = 0) ∧ Mine H H.n t (negL (us.take i) ++ us.drop i) H' ∧ H'.n ≤ H.n + 2, ⟨us.length, ?_⟩, ?_⟩
  · exact ⟨0, _, H1, _, _, _, _, _, _, _, _, _, _, _, _, _, _, _, _, _, _, _, _, _, _, _, rfl, rfl, rfl, Nat.zero_le _, fun _ => rfl, by simpa [negL] using hM, hn1⟩
  · rintro m s ⟨i, n, H', j2, j3, j4, j7, j8, j9, j10, j11, j12, j13, j14, j15, j16, j17, j18, j19, j20, j21, j22, j23, j24, j25, j26, rfl, hm, rfl, hi, hb, hM', hn'⟩
    have hZl : (negL (us.take i) ++ us.drop i).length = us.length := by simp [negL]; omega
    refine ⟨_, len_sl hT (v := t) rfl hM'.sl, ?_⟩
    rw [hZl]
    refine ⟨fun hlt => ?_, fun hge => ?_⟩
    · cases β with
      | false =>
        have hi0 := hb rfl
        subst hi0
        have hfin : Mine H H.n t (if false = true then negL us else us) H' ∧ H'.n ≤ H.n + 2 := ⟨by rw [if_neg (by simp)]; simpa [negL] using hM', hn'⟩
        exact hfin
      | true =>
        obtain ⟨e, he⟩ : ∃ e, us[i]? = some e := ⟨us[i]'(by omega), List.getElem?_eq_getElem _⟩
        have hl2 : (negL (us.take i)).length = i := by simp [negL]; omega
        have hg : (negL (us.take i) ++ us.drop i)[i]? = some e := by
          rw [List.getElem?_append_right (by omega), hl2]; simpa using he
        obtain ⟨-, -, b, zs, hO, hzs, hb0⟩ := id hM'
        refine ⟨_, idx_sl hT (v := t) (n := (i : Int)) (k := i) rfl rfl hM'.sl rfl (by omega), ?_⟩
        refine ⟨_, load_sl hT hM'.sl hg, ?_⟩
        refine ⟨hru e (List.mem_of_getElem? he), ?_⟩
        refine ⟨_, idx_sl hT (v := t) (n := (i : Int)) (k := i) rfl rfl hM'.sl rfl (by omega), ?_⟩
        refine ⟨_, store_ow hT hO (by omega), ?_⟩
        refine ⟨⟨by omega, by omega⟩, ?_⟩
        have hset : (negL (us.take i) ++ us.drop i).set i (0 - e) = negL (us.take (i + 1)) ++ us.drop (i + 1) := by
          rw [take_snoc he, negL_snoc, drop_of_get he, List.set_append_right _ _ (by omega), hl2, Nat.sub_self]
          simp
        have hU := upd_set (H := H') (b := b) (x := .cells true 3 (ints (zs.set i (0 - e)))) hO.lt (by omega)
        refine ⟨us.length - (i + 1), by omega, i + 1, _, _, _, _, _, _, _, _, _, _, _, _, _, _, _, _, _, _, _, _, _, _, _, _, _, rfl, rfl, rfl, by omega, fun h => by simp at h, ?_, by have := hU.n; omega⟩
        rw [← hset]
        have hzl := hO.2.1
        have e2 : zs.set i (0 - e) = (negL (us.take i) ++ us.drop i).set i (0 - e) ++ zs.drop (negL (us.take i) ++ us.drop i).length := by
          conv => lhs; rw [← List.take_append_drop (negL (us.take i) ++ us.drop i).length zs]
          rw [List.set_append_left _ _ (by simp; omega), hzs]
        rw [e2] at hU
        have hM3 := hM'.upd hO hb0 (ys := (negL (us.take i) ++ us.drop i).set i (0 - e)) (by simp) hU
        rw [← e2] at hM3
        exact hM3
    · have hi2 : i = us.length := by omega
      subst hi2
      have hM2 : Mine H H.n t (negL us) H' := by simpa using hM'
      have hfin : Mine H H.n t (if β = true then negL us else us) H' ∧ H'.n ≤ H.n + 2 := by
        cases β with
        | true => exact ⟨hM2, hn'⟩
        | false =>
          have h0 := hb rfl
          have : us = [] := List.eq_nil_of_length_eq_zero h0
          subst this
          exact ⟨hM2, hn'⟩
      exact hfin
end Go.PI
/- The reference's Normal. -/
open Go.Proofs
namespace Go.PI
open IM
theorem fn82 : ctx.fn 82 = some c82 := by kernel_rfl
set_option maxRecDepth 10000
set_option maxHeartbeats 4000000
variable (S : FuncId → Option (List AV → Heap → Option (AV × Heap)))
theorem ex92 (T : List AV) (h : T.length = 92) : T = [T.getD 0 undefA, T.getD 1 undefA, T.getD 2 undefA, T.getD 3 undefA, T.getD 4 undefA, T.getD 5 undefA, T.getD 6 undefA, T.getD 7 undefA, T.getD 8 undefA, T.getD 9 undefA, T.getD 10 undefA, T.getD 11 undefA, T.getD 12 undefA, T.getD 13 undefA, T.getD 14 undefA, T.getD 15 undefA, T.getD 16 undefA, T.getD 17 undefA, T.getD 18 undefA, T.getD 19 undefA, T.getD 20 undefA, T.getD 21 undefA, T.getD 22 undefA, T.getD 23 undefA, T.getD 24 undefA, T.getD 25 undefA, T.getD 26 undefA, T.getD 27 undefA, T.getD 28 undefA, T.getD 29 undefA, T.getD 30 undefA, T.getD 31 undefA, T.getD 32 undefA, T.getD 33 undefA, T.getD 34 undefA, T.getD 35 undefA, T.getD 36 undefA, T.getD 37 undefA, T.getD 38 undefA, T.getD 39 undefA, T.getD 40 undefA, T.getD 41 undefA, T.getD 42 undefA, T.getD 43 undefA, T.getD 44 undefA, T.getD 45 undefA, T.getD 46 undefA, T.getD 47 undefA, T.getD 48 undefA, T.getD 49 undefA, T.getD 50 undefA, T.getD 51 undefA, T.getD 52 undefA, T.getD 53 undefA, T.getD 54 undefA, T.getD 55 undefA, T.getD 56 undefA, T.getD 57 undefA, T.getD 58 undefA, T.getD 59 undefA, T.getD 60 undefA, T.getD 61 undefA, T.getD 62 undefA, T.getD 63 undefA, T.getD 64 undefA, T.getD 65 undefA, T.getD 66 undefA, T.getD 67 undefA, T.getD 68 undefA, T.getD 69 undefA, T.getD 70 undefA, T.getD 71 undefA, T.getD 72 undefA, T.getD 73 undefA, T.getD 74 undefA, T.getD 75 undefA, T.getD 76 undefA, T.getD 77 undefA, T.getD 78 undefA, T.getD 79 undefA, T.getD 80 undefA, T.getD 81 undefA, T.getD 82 undefA, T.getD 83 undefA, T.getD 84 undefA, T.getD 85 undefA, T.getD 86 undefA, T.getD 87 undefA, T.getD 88 undefA, T.getD 89 undefA, T.getD 90 undefA, T.getD 91 undefA] := by
  have := expand T
  rw [h] at this
  exact this
def MN (H0 : Heap) (u : AV) (xs : List Int) (H : Heap) : Prop := (u = .nils ∧ xs = [] ∧ H0.n ≤ H.n ∧ ∀ A, A < H0.n → H.get A = H0.get A) ∨ Mine H0 H0.n u xs H
theorem MN.rv {H0 H : Heap} {u : AV} {xs : List Int} (h : MN H0 u xs H) : RV H u xs := by
  rcases h with ⟨rfl, rfl, -, -⟩ | h
  · exact rv_nil H
  · exact h.rv
theorem MN.n {H0 H : Heap} {u : AV} {xs : List Int} (h : MN H0 u xs H) : H0.n ≤ H.n := by
  rcases h with ⟨-, -, h, -⟩ | h
  · exact h
  · exact h.n
theorem MN.keep {H0 H : Heap} {u : AV} {xs : List Int} (h : MN H0 u xs H) : ∀ A, A < H0.n → H.get A = H0.get A := by
  rcases h with ⟨-, -, -, h⟩ | h
  · exact h
  · exact fun A hA => h.keep A hA (by omega)
theorem Mine.up {H0 H1 H2 : Heap} {v : AV} {xs : List Int} (h : Mine H1 H1.n v xs H2) (hn : H0.n ≤ H1.n) (hk : ∀ A, A < H0.n → H1.get A = H0.get A) : Mine H0 H0.n v xs H2 := by
  obtain ⟨h1, h2, b, zs, h3, h4, h5⟩ := h
  exact ⟨by omega, fun A hA _ => (h2 A (by omega) (by omega)).trans (hk A hA), b, zs, h3, h4, .inr (by omega)⟩
theorem append_mn {C : Ctx} (hT : C.ty = tget) {H0 H : Heap} {u : AV} {xs : List Int} {e : Int} (hn : H.n + 1 < lim) (hl : xs.length ≤ 1000000) (h : MN H0 u xs H) :
    ∃ r H', appendE C [22, 22] u (.sl H.n 0 1 1) (H.push (.cells true 3 [iv e])) = some (r, H') ∧ Mine H0 H0.n r (xs ++ [e]) H' ∧ H'.n ≤ H.n + 2 := by
  rcases h with ⟨rfl, rfl, h1, h2⟩ | h
  · have hp := Heap.get_push (H := H) (b := .cells true 3 [iv e]) (by omega)
    have hpn : (H.push (.cells true 3 [iv e])).n = H.n + 1 := rfl
    have hcells : cellsE (H.push (.cells true 3 [iv e])) 1 1 (.sl H.n 0 1 1) = some [iv e] := by
      simp [cellsE, hp]
    have hone : ones [iv e] = true := rfl
    have hnlim : ¬ lim ≤ H.n + 1 := by omega
    have hq := Heap.get_push (H := H.push (.cells true 3 [iv e])) (b := .cells true 3 (ints [e])) (by omega)
    refine ⟨.slu (H.n + 1) 0 1 1, (H.push (.cells true 3 [iv e])).push (.cells true 3 (ints [e])), ?_, ⟨by show H0.n ≤ H.n + 1 + 1; omega, fun A hA _ => ?_, H.n + 1, [e], ⟨?_, by simp, .inr rfl⟩, rfl, .inr (by omega)⟩, by show H.n + 1 + 1 ≤ H.n + 2; omega⟩
    · simp only [appendE, ty22 hT, ty3 hT, t22, t3, srcOk, lenE, hcells, hone, hpn]
      simp [hnlim, ints]
    · rw [hq, hpn, if_neg (by omega), hp, if_neg (by omega)]; exact h2 A hA
    · rw [hq, hpn, if_pos rfl]
  · exact append_mine hT hn (by omega) h
theorem rnormal_run (h82 : S 82 = none) (h124 : S 124 = none) (h125 : S 125 = none) (h126 : S 126 = none) {H : Heap} {x : AV} {xs : List Int} (hn : H.n + 4 * xs.length + 100 < lim) (hx : Sl H x xs) (hl : xs.length ≤ 1000) (hr : ∀ e ∈ xs, In64 e) :
    Cl (ctx.plus S) 82 [x] H fun r H' => Mine H H.n r (digits (val xs)) H' ∧ H'.n ≤ H.n + 4 * xs.length + 40 := by
  refine cl_of h82 fn82 ?_
  have hT : (ctx.plus S).ty = tget := rfl
  refine ⟨fun m s => ∃ (i : Nat) (n c : Int) (u : AV) (L : List Int) (H' : Heap) (T : List AV),
    s = ⟨T, H', []⟩ ∧ T.length = 92 ∧ T.getD 0 undefA = x ∧ T.getD 3 undefA = u ∧ T.getD 4 undefA = iv c ∧ T.getD 5 undefA = iv n ∧ m = xs.length - i ∧ n = i ∧ i ≤ xs.length ∧ MN H u L H' ∧ L.length = i ∧ Dig L ∧ val L + pw i * c = val (xs.take i) ∧ -1000000000000 ≤ c ∧ c ≤ 1000000000000 ∧ H'.n ≤ H.n + 2 * i, ⟨xs.length, ?_⟩, ?_⟩
  · exact ⟨0, _, 0, .nils, [], H, _, rfl, rfl, rfl, rfl, rfl, rfl, rfl, rfl, Nat.zero_le _, .inl ⟨rfl, rfl, Nat.le_refl _, fun _ _ => rfl⟩, rfl, fun _ h => (List.not_mem_nil h).elim, by simp [val], by omega, by omega, by omega⟩
  · rintro m s ⟨i, n, c, u, L, H', T, rfl, hTl, h0t, h3t, h4t, h5t, hm, rfl, hi, hM, hL, dL, hv, hc1, hc2, hn'⟩
    obtain ⟨J, rfl⟩ : ∃ J : Nat → AV, T = [x, J 1, J 2, u, iv c, iv i, J 6, J 7, J 8, J 9, J 10, J 11, J 12, J 13, J 14, J 15, J 16, J 17, J 18, J 19, J 20, J 21, J 22, J 23, J 24, J 25, J 26, J 27, J 28, J 29, J 30, J 31, J 32, J 33, J 34, J 35, J 36, J 37, J 38, J 39, J 40, J 41, J 42, J 43, J 44, J 45, J 46, J 47, J 48, J 49, J 50, J 51, J 52, J 53, J 54, J 55, J 56, J 57, J 58, J 59, J 60, J 61, J 62, J 63, J 64, J 65, J 66, J 67, J 68, J 69, J 70, J 71, J 72, J 73, J 74, J 75, J 76, J 77, J 78, J 79, J 80, J 81, J 82, J 83, J 84, J 85, J 86, J 87, J 88, J 89, J 90, J 91] := ⟨fun i => T.getD i undefA, (ex92 T hTl).trans (by rw [h0t, h3t, h4t, h5t])⟩
    clear hTl h0t h3t h4t h5t
    have hxs : Sl H' x xs := hx.mono hM.keep
    refine ⟨_, len_sl hT (v := x) rfl hxs, ?_⟩
    refine ⟨fun hlt => ?_, fun hge => ?_⟩
    · obtain ⟨e, he⟩ : ∃ e, xs[i]? = some e := ⟨xs[i]'(by omega), List.getElem?_eq_getElem _⟩
      have he64 := hr e (List.mem_of_getElem? he)
      refine ⟨_, idx_sl hT (v := x) (n := (i : Int)) (k := i) rfl rfl hxs rfl (by omega), ?_⟩
      refine ⟨_, load_sl hT hxs he, ?_⟩
      refine (split_run S h124 (H := H') he64).mono ?_
      rintro _ _ ⟨rfl, rfl⟩
      unfold In64 at he64
      have em1 := Int.emod_nonneg e (show (100000000 : Int) ≠ 0 by decide)
      have em2 := Int.emod_lt_of_pos e (show (0 : Int) < 100000000 by decide)
      refine ⟨⟨by omega, by omega⟩, ?_⟩
      refine (split_run S h124 (H := H') (e := e % 100000000 + c) (by unfold In64; omega)).mono ?_
      rintro _ _ ⟨rfl, rfl⟩
      obtain ⟨s, hs⟩ : ∃ s, (e % 100000000 + c) % 100000000 = s := ⟨_, rfl⟩
      obtain ⟨p, hp⟩ : ∃ p, (e % 100000000 + c) / 100000000 = p := ⟨_, rfl⟩
      obtain ⟨q, hq⟩ : ∃ q, e / 100000000 = q := ⟨_, rfl⟩
      have hsp : s + 100000000 * p = e % 100000000 + c := by omega
      have heq : e % 100000000 + 100000000 * q = e := by omega
      refine ⟨by omega, _, _, rfl, ?_⟩
      obtain ⟨r, H2, ha, hM2, hn2⟩ := append_mn hT (C := ctx.plus S) (e := (e % 100000000 + c) % 100000000) (by omega) (by omega) hM
      refine ⟨r, H2, ha, ?_⟩
      refine ⟨⟨by omega, by omega⟩, ?_⟩
      refine ⟨⟨by omega, by omega⟩, ?_⟩
      refine ⟨xs.length - (i + 1), by omega, i + 1, _, e / 100000000 + (e % 100000000 + c) / 100000000, r, L ++ [(e % 100000000 + c) % 100000000], H2, _, rfl, rfl, rfl, rfl, rfl, rfl, rfl, rfl, by omega, .inr hM2, by simp [hL], ?_, ?_, by omega, by omega, by omega⟩
      · intro z hz
        rcases List.mem_append.1 hz with h | h
        · exact dL z h
        · have : z = (e % 100000000 + c) % 100000000 := by simpa using h
          omega
      · rw [hs, hp, hq, val_snoc, hL, take_snoc he, val_snoc, List.length_take, Nat.min_eq_left (by omega), pw_succ, ← hv]
        have e1 : pw i * (s + 100000000 * p) = pw i * (e % 100000000 + c) := by rw [hsp]
        have e2 : pw i * (e % 100000000 + 100000000 * q) = pw i * e := by rw [heq]
        grind
    · have hin : i = xs.length := by omega
      subst hin
      rw [List.take_length] at hv
      clear hm hge
      obtain ⟨V, hV⟩ : ∃ V, val xs = V := ⟨_, rfl⟩
      rw [hV] at hv ⊢
      refine ⟨fun m s => ∃ (c : Int) (u : AV) (L : List Int) (H' : Heap) (T : List AV),
        s = ⟨T, H', []⟩ ∧ T.length = 92 ∧ T.getD 3 undefA = u ∧ T.getD 4 undefA = iv c ∧ m = c.natAbs ∧ MN H u L H' ∧ Dig L ∧ val L + pw L.length * c = V ∧ H'.n ≤ H.n + 2 * L.length ∧
        ((-1000000000000 ≤ c ∧ c ≤ 1000000000000 ∧ L.length = xs.length) ∨ (-10001 ≤ c ∧ c ≤ 10001 ∧ L.length = xs.length + 1) ∨ (-1 ≤ c ∧ c ≤ 0 ∧ L.length ≤ xs.length + 2)), ⟨c.natAbs, ?_⟩, ?_⟩
      · exact ⟨c, u, L, H', _, rfl, rfl, rfl, rfl, rfl, hM, dL, by rw [hL]; exact hv, by omega, .inl ⟨hc1, hc2, hL⟩⟩
      · clear hv hc1 hc2 hn' hM dL hL hxs c u L H' J
        rintro m s ⟨c, u, L, H', T, rfl, hTl, h3t, h4t, rfl, hM, dL, hv, hn', hc⟩
        obtain ⟨J, rfl⟩ : ∃ J : Nat → AV, T = [J 0, J 1, J 2, u, iv c, J 5, J 6, J 7, J 8, J 9, J 10, J 11, J 12, J 13, J 14, J 15, J 16, J 17, J 18, J 19, J 20, J 21, J 22, J 23, J 24, J 25, J 26, J 27, J 28, J 29, J 30, J 31, J 32, J 33, J 34, J 35, J 36, J 37, J 38, J 39, J 40, J 41, J 42, J 43, J 44, J 45, J 46, J 47, J 48, J 49, J 50, J 51, J 52, J 53, J 54, J 55, J 56, J 57, J 58, J 59, J 60, J 61, J 62, J 63, J 64, J 65, J 66, J 67, J 68, J 69, J 70, J 71, J 72, J 73, J 74, J 75, J 76, J 77, J 78, J 79, J 80, J 81, J 82, J 83, J 84, J 85, J 86, J 87, J 88, J 89, J 90, J 91] := ⟨fun i => T.getD i undefA, (ex92 T hTl).trans (by rw [h3t, h4t])⟩
        clear hTl h3t h4t
        have hLl : L.length ≤ xs.length + 2 := by omega
        have endC : c = 0 → ∀ r H2, Mine H' H'.n r (trimL L) H2 ∧ H2.n ≤ H'.n + 2 → Mine H H.n r (digits V) H2 ∧ H2.n ≤ H.n + 4 * xs.length + 40 := by
          rintro rfl r H2 ⟨h1, h2⟩
          rw [dL.trim, show val L = V by rw [← hv]; omega] at h1
          exact ⟨h1.up hM.n hM.keep, by omega⟩
        refine ⟨fun hc0 => ?_, fun hc0 => ?_⟩
        · refine ⟨fun hc1 => ?_, fun hc1 => ?_⟩
          · refine (split_run S h124 (H := H') (e := c) (by unfold In64; omega)).mono ?_
            rintro _ _ ⟨rfl, rfl⟩
            refine ⟨by omega, _, _, rfl, ?_⟩
            obtain ⟨r, H2, ha, hM2, hn2⟩ := append_mn hT (C := ctx.plus S) (e := c % 100000000) (by omega) (by omega) hM
            refine ⟨r, H2, ha, ?_⟩
            refine ⟨(c / 100000000).natAbs, by omega, c / 100000000, r, L ++ [c % 100000000], H2, _, rfl, rfl, rfl, rfl, rfl, .inr hM2, ?_, ?_, by simp; omega, by simp; omega⟩
            · intro z hz
              rcases List.mem_append.1 hz with h | h
              · exact dL z h
              · have : z = c % 100000000 := by simpa using h
                omega
            · obtain ⟨s, hs⟩ : ∃ s, c % 100000000 = s := ⟨_, rfl⟩
              obtain ⟨p, hp⟩ : ∃ p, c / 100000000 = p := ⟨_, rfl⟩
              have hsp : s + 100000000 * p = c := by omega
              rw [hs, hp, val_snoc, List.length_append, List.length_singleton, pw_succ, ← hv]
              have e1 : pw L.length * (s + 100000000 * p) = pw L.length * c := by rw [hsp]
              grind
          · subst hc1
            refine ⟨fun h => absurd h (by decide), fun _ => ?_⟩
            have hu := hM.rv
            refine ⟨fun m s => ∃ (i : Nat) (n br : Int) (w : AV) (Z : List Int) (H2 : Heap) (T : List AV),
              s = ⟨T, H2, []⟩ ∧ T.length = 92 ∧ T.getD 3 undefA = u ∧ T.getD 12 undefA = w ∧ T.getD 13 undefA = iv br ∧ T.getD 14 undefA = iv n ∧ m = L.length - i ∧ n = i ∧ i ≤ L.length ∧ MN H' w Z H2 ∧ Z.length = i ∧ Dig Z ∧ (br = 0 ∨ br = 1) ∧ val Z = - val (L.take i) + pw i * br ∧ H2.n ≤ H'.n + 2 * i, ⟨L.length, ?_⟩, ?_⟩
            · exact ⟨0, _, 0, .nils, [], H', _, rfl, rfl, rfl, rfl, rfl, rfl, rfl, rfl, Nat.zero_le _, .inl ⟨rfl, rfl, Nat.le_refl _, fun _ _ => rfl⟩, rfl, fun _ h => (List.not_mem_nil h).elim, .inl rfl, by simp [val], by omega⟩
            · rintro m s ⟨i, n, br, w, Z, H2, T, rfl, hTl, h3t, h12t, h13t, h14t, rfl, rfl, hi, hM2, hZ, dZ, hbr, hvz, hn2⟩
              obtain ⟨J', rfl⟩ : ∃ J : Nat → AV, T = [J 0, J 1, J 2, u, J 4, J 5, J 6, J 7, J 8, J 9, J 10, J 11, w, iv br, iv i, J 15, J 16, J 17, J 18, J 19, J 20, J 21, J 22, J 23, J 24, J 25, J 26, J 27, J 28, J 29, J 30, J 31, J 32, J 33, J 34, J 35, J 36, J 37, J 38, J 39, J 40, J 41, J 42, J 43, J 44, J 45, J 46, J 47, J 48, J 49, J 50, J 51, J 52, J 53, J 54, J 55, J 56, J 57, J 58, J 59, J 60, J 61, J 62, J 63, J 64, J 65, J 66, J 67, J 68, J 69, J 70, J 71, J 72, J 73, J 74, J 75, J 76, J 77, J 78, J 79, J 80, J 81, J 82, J 83, J 84, J 85, J 86, J 87, J 88, J 89, J 90, J 91] := ⟨fun i => T.getD i undefA, (ex92 T hTl).trans (by rw [h3t, h12t, h13t, h14t])⟩
              clear hTl h3t h12t h13t h14t
              have hu2 : Sl H2 u L := hu.sl.mono hM2.keep
              refine ⟨_, len_sl hT (v := u) rfl hu2, ?_⟩
              refine ⟨fun hlt => ?_, fun hge => ?_⟩
              · obtain ⟨e, he⟩ : ∃ e, L[i]? = some e := ⟨L[i]'(by omega), List.getElem?_eq_getElem _⟩
                have heB := dL e (List.mem_of_getElem? he)
                refine ⟨_, idx_sl hT (v := u) (n := (i : Int)) (k := i) rfl rfl hu2 rfl (by omega), ?_⟩
                refine ⟨_, load_sl hT hu2 he, ?_⟩
                refine ⟨⟨by omega, by omega⟩, ?_⟩
                refine ⟨⟨by omega, by omega⟩, ?_⟩
                have next : ∀ (d br' : Int), d = 0 - e - br + 100000000 * br' → val (Z ++ [d]) = - val (L.take (i + 1)) + pw (i + 1) * br' := fun d br' hd => by
                  rw [val_snoc, hZ, take_snoc he, val_snoc, List.length_take, Nat.min_eq_left (by omega), pw_succ, hvz, hd]
                  grind
                refine ⟨fun hneg => ?_, fun hpos => ?_⟩
                · refine ⟨⟨by omega, by omega⟩, ?_⟩
                  refine ⟨by omega, _, _, rfl, ?_⟩
                  obtain ⟨r, H3, ha, hM3, hn3⟩ := append_mn hT (C := ctx.plus S) (e := 0 - e - br + 100000000) (by omega) (by omega) hM2
                  refine ⟨r, H3, ha, ?_⟩
                  refine ⟨⟨by omega, by omega⟩, ?_⟩
                  refine ⟨L.length - (i + 1), by omega, i + 1, _, 1, r, Z ++ [0 - e - br + 100000000], H3, _, rfl, rfl, rfl, rfl, rfl, rfl, rfl, rfl, by omega, .inr hM3, by simp [hZ], ?_, .inr rfl, next _ 1 (by omega), by omega⟩
                  intro z hz
                  rcases List.mem_append.1 hz with h | h
                  · exact dZ z h
                  · have : z = 0 - e - br + 100000000 := by simpa using h
                    omega
                · refine ⟨by omega, _, _, rfl, ?_⟩
                  obtain ⟨r, H3, ha, hM3, hn3⟩ := append_mn hT (C := ctx.plus S) (e := 0 - e - br) (by omega) (by omega) hM2
                  refine ⟨r, H3, ha, ?_⟩
                  refine ⟨⟨by omega, by omega⟩, ?_⟩
                  refine ⟨L.length - (i + 1), by omega, i + 1, _, 0, r, Z ++ [0 - e - br], H3, _, rfl, rfl, rfl, rfl, rfl, rfl, rfl, rfl, by omega, .inr hM3, by simp [hZ], ?_, .inl rfl, next _ 0 (by omega), by omega⟩
                  intro z hz
                  rcases List.mem_append.1 hz with h | h
                  · exact dZ z h
                  · have : z = 0 - e - br := by simpa using h
                    omega
              · have hiL : i = L.length := by omega
                subst hiL
                rw [List.take_length] at hvz
                have fin : ∀ (W : List Int) (H3 : Heap), Dig W → val W = - V → H'.n ≤ H3.n → (∀ A, A < H'.n → H3.get A = H'.get A) → H3.n ≤ H.n + 4 * xs.length + 30 → ∀ r H4, Mine H3 H3.n r (if true = true then negL (trimL W) else trimL W) H4 ∧ H4.n ≤ H3.n + 2 → Mine H H.n r (digits V) H4 ∧ H4.n ≤ H.n + 4 * xs.length + 40 := by
                  rintro W H3 dW hW hk1 hk2 hk3 r H4 ⟨h1, h2⟩
                  rw [if_pos rfl, dW.trim, hW] at h1
                  unfold negL at h1
                  rw [negd, Int.neg_neg] at h1
                  exact ⟨h1.up (Nat.le_trans hM.n hk1) (fun A hA => (hk2 A (by have := hM.n; omega)).trans (hM.keep A hA)), by omega⟩
                refine ⟨fun hb0 => ?_, fun hb0 => ?_⟩
                · subst hb0
                  refine ⟨by omega, _, _, rfl, ?_⟩
                  obtain ⟨r, H3, ha, hM3, hn3⟩ := append_mn hT (C := ctx.plus S) (e := 1) (by omega) (by omega) hM2
                  refine ⟨r, H3, ha, ?_⟩
                  have dW : Dig (Z ++ [1]) := fun z hz => by
                    rcases List.mem_append.1 hz with h | h
                    · exact dZ z h
                    · have : z = 1 := by simpa using h
                      omega
                  refine (signed_run S h126 h125 (H := H3) (β := true) (by omega) hM3.rv (by simp; omega) (fun e he => by have := dW e he; unfold In64; omega)).mono ?_
                  exact fin (Z ++ [1]) H3 dW (by rw [val_snoc, hZ]; omega) hM3.n (fun A hA => hM3.keep A hA (by omega)) (by omega)
                · have hb1 : br = 1 := by omega
                  subst hb1
                  refine (signed_run S h126 h125 (H := H2) (β := true) (by omega) hM2.rv (by omega) (fun e he => by have := dZ e he; unfold In64; omega)).mono ?_
                  exact fin Z H2 dZ (by omega) hM2.n hM2.keep (by omega)
        · refine ⟨fun _ => ?_, fun h => absurd hc0 h⟩
          refine (rtrim_run S h125 (H := H') (by omega) hM.rv (by omega)).mono ?_
          exact endC hc0
end Go.PI
