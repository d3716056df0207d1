/- Own work of the verifier, group RefB: PiDr4 PiRef3. -/
import Derived.Test.YtgmhmahdmbdngaaGreatDoorPiS
import Derived.Test.YtgmhmahdmbdngaaGreatDoorRefA
set_option linter.all false
set_option linter.deprecated false
/- OPEN REGIONS WITH ALLOCATIONS behind which no operation of effect may come up ahead of them. -/
namespace Go.PI
def alBd (C : Ctx) (ops : List Oper) (pre : List Nat) (i : Nat) : Nat → Nat → Bool
  | _, 0 => true
  | p, n + 1 => !(isBd C ops p && decide (i < p) && mayAt C ops pre i p ops 0) && alBd C ops pre i (p + 1) n
def alNone (C : Ctx) (ops : List Oper) (pre : List Nat) : List Oper → Nat → Bool
  | [], _ => true
  | o :: os, i => (match kindOf C o.op with | .alloc => alBd C ops pre i 0 (ops.length + 1) | _ => true) && alNone C ops pre os (i + 1)
def alsP (C : Ctx) (ops : List Oper) : List Oper → List (List AV × Heap) → Prop
  | o :: os, (T, _) :: tr => (match kindOf C o.op with
    | .alloc => (match Region.wanted o (ayielded ops T) with
      | true => ∃ ty cs f, allocE C (opd T) o.op = some (.cells true ty cs, f)
      | false => True)
    | _ => True) ∧ alsP C ops os tr
  | _, _ => True
theorem allocAts_of4 {C : Ctx} {ops : List Oper} {pre : List Nat} {i A : Nat} {ty : TypeId} {cs : List AV} : ∀ (tr : List (List AV × Heap)) (p n : Nat), alBd C ops pre i p n = true → tr.length ≤ n → allocAts C ops pre i A ty cs tr p = true
  | [], _, _, _, _ => rfl
  | (T, H) :: r, p, 0, _, hl => by simp at hl
  | (T, H) :: r, p, n + 1, h, hl => by
    simp only [alBd, Bool.and_eq_true] at h
    simp only [allocAts]
    rw [allocAts_of4 r (p + 1) n h.2 (by simpa using hl), Bool.and_true, h.1, Bool.true_or]
theorem allocs_of4 {C : Ctx} {ops : List Oper} {pre : List Nat} {all : List (List AV × Heap)} (hlen : all.length = ops.length + 1) : ∀ (os : List Oper) (tr : List (List AV × Heap)) (i : Nat), alNone C ops pre os i = true → alsP C ops os tr → allocsOk C ops pre all os tr i = true
  | [], tr, _, _, _ => by cases tr <;> rfl
  | o :: os, [], _, _, _ => rfl
  | o :: os, (T, H) :: tr, i, h, ha => by
    simp only [alNone, Bool.and_eq_true] at h
    simp only [allocsOk]
    rw [allocs_of4 hlen os tr (i + 1) h.2 ha.2, Bool.and_true]
    have h1 := h.1
    have h2 := ha.1
    cases hk : kindOf C o.op <;> simp only [hk] at h1 h2 ⊢
    cases hw : Region.wanted o (ayielded ops T) with
    | false => simp
    | true =>
      simp only [hw] at h2
      obtain ⟨ty, cs, f, he⟩ := h2
      simp only [if_true, he]
      exact allocAts_of4 all 0 _ h1 (by omega)
def growS4 (C : Ctx) (ops : List Oper) (ms : List (List Bool)) : Bool := orderOk C ops (preList ops []) ops 0 && msOk C ops (preList ops []) ms ops 0 && alNone C ops (preList ops []) ops 0
theorem draw_of4 {C : Ctx} {ops : List Oper} {tr : List (List AV × Heap)} (ms : List (List Bool)) (hs : growS4 C ops ms = true) (hlen : tr.length = ops.length + 1) (hl : ldsM C ops tr ms ops tr) (ha : alsP C ops ops tr) (hm : mnP tr) : drawOk C ops tr = true := by
  simp only [growS4, Bool.and_eq_true] at hs
  unfold drawOk
  simp only [hs.1.1, loads_of3 hlen ms ops tr 0 hs.1.2 hl, allocs_of4 hlen ops tr 0 hs.2 ha, mono_of hm, Bool.and_self]
end Go.PI

/- The reference's Add, Neg, Sub, Sign, Cmp, less. -/
open Go.Proofs
namespace Go.PI
open IM
theorem fn28 : ctx.fn 28 = some c28 := by kernel_rfl
theorem fn30 : ctx.fn 30 = some c30 := by kernel_rfl
theorem fn34 : ctx.fn 34 = some c34 := by kernel_rfl
theorem fn115 : ctx.fn 115 = some c115 := by kernel_rfl
theorem fn117 : ctx.fn 117 = some c117 := by kernel_rfl
theorem fn190 : ctx.fn 190 = some c190 := by kernel_rfl
set_option maxRecDepth 10000
set_option maxHeartbeats 4000000
variable (S : FuncId → Option (List AV → Heap → Option (AV × Heap)))
theorem ex48 (T : List AV) (h : T.length = 48) : T = [T.getD 0 undefA, T.getD 1 undefA, T.getD 2 undefA, T.getD 3 undefA, T.getD 4 undefA, T.getD 5 undefA, T.getD 6 undefA, T.getD 7 undefA, T.getD 8 undefA, T.getD 9 undefA, T.getD 10 undefA, T.getD 11 undefA, T.getD 12 undefA, T.getD 13 undefA, T.getD 14 undefA, T.getD 15 undefA, T.getD 16 undefA, T.getD 17 undefA, T.getD 18 undefA, T.getD 19 undefA, T.getD 20 undefA, T.getD 21 undefA, T.getD 22 undefA, T.getD 23 undefA, T.getD 24 undefA, T.getD 25 undefA, T.getD 26 undefA, T.getD 27 undefA, T.getD 28 undefA, T.getD 29 undefA, T.getD 30 undefA, T.getD 31 undefA, T.getD 32 undefA, T.getD 33 undefA, T.getD 34 undefA, T.getD 35 undefA, T.getD 36 undefA, T.getD 37 undefA, T.getD 38 undefA, T.getD 39 undefA, T.getD 40 undefA, T.getD 41 undefA, T.getD 42 undefA, T.getD 43 undefA, T.getD 44 undefA, T.getD 45 undefA, T.getD 46 undefA, T.getD 47 undefA] := by
  have := expand T
  rw [h] at this
  exact this
theorem ex41 (T : List AV) (h : T.length = 41) : T = [T.getD 0 undefA, T.getD 1 undefA, T.getD 2 undefA, T.getD 3 undefA, T.getD 4 undefA, T.getD 5 undefA, T.getD 6 undefA, T.getD 7 undefA, T.getD 8 undefA, T.getD 9 undefA, T.getD 10 undefA, T.getD 11 undefA, T.getD 12 undefA, T.getD 13 undefA, T.getD 14 undefA, T.getD 15 undefA, T.getD 16 undefA, T.getD 17 undefA, T.getD 18 undefA, T.getD 19 undefA, T.getD 20 undefA, T.getD 21 undefA, T.getD 22 undefA, T.getD 23 undefA, T.getD 24 undefA, T.getD 25 undefA, T.getD 26 undefA, T.getD 27 undefA, T.getD 28 undefA, T.getD 29 undefA, T.getD 30 undefA, T.getD 31 undefA, T.getD 32 undefA, T.getD 33 undefA, T.getD 34 undefA, T.getD 35 undefA, T.getD 36 undefA, T.getD 37 undefA, T.getD 38 undefA, T.getD 39 undefA, T.getD 40 undefA] := by
  have := expand T
  rw [h] at this
  exact this
/-- what is asked of the table of summaries, so that the reference is walked -/
structure OldR (S : FuncId → Option (List AV → Heap → Option (AV × Heap))) : Prop where
  h22 : S 22 = none
  h25 : S 25 = none
  h28 : S 28 = none
  h30 : S 30 = none
  h32 : S 32 = none
  h34 : S 34 = none
  h36 : S 36 = none
  h38 : S 38 = none
  h110 : S 110 = none
  h111 : S 111 = none
  h112 : S 112 = none
  h115 : S 115 = none
  h117 : S 117 = none
  h119 : S 119 = none
  h120 : S 120 = none
  h122 : S 122 = none
  h190 : S 190 = none
/-- v is an integer X of few elements -/
structure SV (H : Heap) (v : AV) (xs : List Int) (X : Int) : Prop where
  sl : Sl H v xs
  in64 : ∀ e ∈ xs, In64 e
  len : xs.length ≤ 20
  val : val xs = X
  dl : (digits X).length ≤ 20
theorem SV.kp {H H' : Heap} {v : AV} {xs : List Int} {X : Int} {c : Nat} (h : SV H v xs X) (k : Kp H H' c) : SV H' v xs X := ⟨h.sl.kp k, h.in64, h.len, h.val, h.dl⟩
theorem SV.of {H : Heap} {v : AV} {X : Int} (h : Sl H v (digits X)) (hb : -pw 20 < X ∧ X < pw 20) : SV H v (digits X) X :=
  ⟨h, fun e he => by have := (nrm_digits X).sml' e he; unfold In64; omega, len_of hb, val_digits X, len_of hb⟩
/-- the sums of two lists, element by element -/
def sumL : List Int → List Int → List Int
  | x :: xs, y :: ys => (x + y) :: sumL xs ys
  | xs, [] => xs
  | [], ys => ys
theorem sumL_nil (xs : List Int) : sumL xs [] = xs := by cases xs <;> rfl
theorem sumL_nil' (xs : List Int) : sumL [] xs = xs := by cases xs <;> rfl
theorem sumL_val : ∀ xs ys : List Int, val (sumL xs ys) = val xs + val ys
  | [], ys => by rw [sumL_nil']; simp [val]
  | x :: xs, [] => by rw [sumL_nil]; simp [val]
  | x :: xs, y :: ys => by
    simp only [sumL, val]
    rw [sumL_val xs ys]; omega
theorem sumL_length : ∀ xs ys : List Int, (sumL xs ys).length = max xs.length ys.length
  | [], ys => by rw [sumL_nil']; simp
  | x :: xs, [] => by rw [sumL_nil]; simp
  | x :: xs, y :: ys => by
    simp only [sumL, List.length_cons]
    rw [sumL_length xs ys]; omega
theorem sumL_get : ∀ (xs ys : List Int) (i : Nat), i < max xs.length ys.length → (sumL xs ys)[i]? = some (xs.getD i 0 + ys.getD i 0)
  | [], ys, i, h => by
    rw [sumL_nil']
    simp at h
    rw [List.getElem?_eq_getElem h]
    simp [List.getD_eq_getElem?_getD, List.getElem?_eq_getElem h]
  | x :: xs, [], i, h => by
    rw [sumL_nil]
    simp at h
    rw [List.getElem?_eq_getElem (by simpa using h)]
    simp [List.getD_eq_getElem?_getD, List.getElem?_eq_getElem (show i < (x :: xs).length by simpa using h)]
  | x :: xs, y :: ys, 0, h => by simp [sumL]
  | x :: xs, y :: ys, i + 1, h => by
    simp only [sumL, List.getElem?_cons_succ]
    rw [sumL_get xs ys i (by simp at h ⊢; omega)]
    simp
theorem radd_run (hR : OldR S) {H : Heap} {x y : AV} {xs ys : List Int} {X Y : Int} (hn : H.n + 1000 < lim) (hx : SV H x xs X) (hy : SV H y ys Y) :
    Cl (ctx.plus S) 28 [x, y] H fun r H' => Mine H H.n r (digits (X + Y)) H' ∧ H'.n ≤ H.n + 420 := by
  refine cl_of hR.h28 fn28 ?_
  have hT : (ctx.plus S).ty = tget := rfl
  have lx := hx.len
  have ly := hy.len
  have dx := hx.dl
  have dy := hy.dl
  refine (rnormal_run S hR.h25 hR.h110 hR.h111 hR.h112 (by omega) hx.sl (by omega) hx.in64).mono ?_
  rw [hx.val]
  rintro a H1 ⟨hM1, hn1⟩
  have k1 := hM1.kp (c := 120) (by omega)
  have k1m := k1.m
  refine (rnormal_run S hR.h25 hR.h110 hR.h111 hR.h112 (H := H1) (by omega) (hy.sl.kp k1) (by omega) hy.in64).mono ?_
  rw [hy.val]
  rintro b H2 ⟨hM2, hn2⟩
  have k2 := hM2.kp (c := 120) (by omega)
  have k2m := k2.m
  have k1n := k1.n
  have k2n := k2.n
  have ha : Sl H2 a (digits X) := hM1.toSl.kp k2
  have hb : Sl H2 b (digits Y) := hM2.toSl
  obtain ⟨us, hus⟩ : ∃ us, digits X = us := ⟨_, rfl⟩
  obtain ⟨ws, hws⟩ : ∃ ws, digits Y = ws := ⟨_, rfl⟩
  have su := (nrm_digits X).sml'
  have sw := (nrm_digits Y).sml'
  have vu := val_digits X
  have vw := val_digits Y
  rw [hus] at ha su vu dx
  rw [hws] at hb sw vw dy
  have hsl := sumL_length us ws
  have hsb : ∀ e ∈ sumL us ws, -200000000 ≤ e ∧ e ≤ 200000000 := by
    intro e he
    obtain ⟨i, hi⟩ := List.getElem?_of_mem he
    have hlt := (List.getElem?_eq_some_iff.1 hi).1
    rw [sumL_get us ws i (by omega)] at hi
    have g1 : -100000000 < us.getD i 0 ∧ us.getD i 0 < 100000000 := by
      rw [List.getD_eq_getElem?_getD]
      cases h : us[i]? with
      | none => simp
      | some z => simpa using su z (List.mem_of_getElem? h)
    have g2 : -100000000 < ws.getD i 0 ∧ ws.getD i 0 < 100000000 := by
      rw [List.getD_eq_getElem?_getD]
      cases h : ws[i]? with
      | none => simp
      | some z => simpa using sw z (List.mem_of_getElem? h)
    cases hi
    omega
  refine ⟨fun m s => ∃ (i : Nat) (n : Int) (o : AV) (H' : Heap) (T : List AV),
    s = ⟨T, H', []⟩ ∧ T.length = 48 ∧ T.getD 0 undefA = a ∧ T.getD 1 undefA = b ∧ T.getD 5 undefA = o ∧ T.getD 6 undefA = iv n ∧ m = max us.length ws.length - i ∧ n = i ∧ i ≤ max us.length ws.length ∧ MN H2 o ((sumL us ws).take i) H' ∧ H'.n ≤ H2.n + 2 * i, ⟨max us.length ws.length, ?_⟩, ?_⟩
  · exact ⟨0, _, .nils, H2, _, rfl, rfl, rfl, rfl, rfl, rfl, rfl, rfl, Nat.zero_le _, .inl ⟨rfl, rfl, Nat.le_refl _, fun _ _ => rfl⟩, by omega⟩
  · rintro m s ⟨i, n, o, H', T, rfl, hTl, h0t, h1t, h5t, h6t, rfl, rfl, hi, hM, hn'⟩
    obtain ⟨J, rfl⟩ : ∃ J : Nat → AV, T = [a, b, J 2, J 3, J 4, o, iv i, J 7, J 8, J 9, J 10, J 11, J 12, J 13, J 14, J 15, J 16, J 17, J 18, J 19, J 20, J 21, J 22, J 23, J 24, J 25, J 26, J 27, J 28, J 29, J 30, J 31, J 32, J 33, J 34, J 35, J 36, J 37, J 38, J 39, J 40, J 41, J 42, J 43, J 44, J 45, J 46, J 47] := ⟨fun i => T.getD i undefA, (ex48 T hTl).trans (by rw [h0t, h1t, h5t, h6t])⟩
    clear hTl h0t h1t h5t h6t
    have ha' : Sl H' a us := ha.mono hM.keep
    have hb' : Sl H' b ws := hb.mono hM.keep
    have step : ∀ e : Int, e = us.getD i 0 + ws.getD i 0 → i < max us.length ws.length → ∃ r H3, appendE (ctx.plus S) [22, 22] o (.sl H'.n 0 1 1) (H'.push (.cells true 3 [iv e])) = some (r, H3) ∧ MN H2 r ((sumL us ws).take (i + 1)) H3 ∧ H3.n ≤ H2.n + 2 * (i + 1) := by
      intro e he hlt
      obtain ⟨r, H3, h1, h2, h3⟩ := append_mn hT (C := ctx.plus S) (e := e) (by omega) (by simp; omega) hM
      refine ⟨r, H3, h1, .inr ?_, by omega⟩
      have hg := sumL_get us ws i hlt
      rw [take_snoc hg, ← he]
      exact h2
    have gd : ∀ {zs : List Int} {j : Nat} {e : Int}, zs[j]? = some e → zs.getD j 0 = e := fun h => by rw [List.getD_eq_getElem?_getD, h]; rfl
    have gn : ∀ {zs : List Int} {j : Nat}, zs.length ≤ j → zs.getD j 0 = 0 := fun h => by rw [List.getD_eq_getElem?_getD, List.getElem?_eq_none h]; rfl
    have done : i = max us.length ws.length → ∀ r H3, Mine H' H'.n r (digits (val ((sumL us ws).take i))) H3 ∧ H3.n ≤ H'.n + 4 * ((sumL us ws).take i).length + 40 → Mine H H.n r (digits (X + Y)) H3 ∧ H3.n ≤ H.n + 420 := by
      rintro he r H3 ⟨h1, h2⟩
      rw [List.take_of_length_le (by omega), sumL_val, vu, vw] at h1
      have hl2 : ((sumL us ws).take i).length ≤ 20 := by simp; omega
      refine ⟨h1.up (by have := hM.n; omega) (fun A hA => ?_), by omega⟩
      rw [hM.keep A (by omega), k2.get A (by omega), k1.get A hA]
    have fin : i = max us.length ws.length → Cl (ctx.plus S) 25 [o] H' fun r H3 => Mine H H.n r (digits (X + Y)) H3 ∧ H3.n ≤ H.n + 420 := fun he =>
      (rnormal_run S hR.h25 hR.h110 hR.h111 hR.h112 (H := H') (by simp; omega) hM.rv.sl (by simp; omega) (fun e he => by have := hsb e (List.mem_of_mem_take he); unfold In64; omega)).mono (done he)
    refine ⟨_, len_sl hT (v := a) rfl ha', ?_⟩
    refine ⟨fun h1 => ?_, fun h1 => ?_⟩
    · obtain ⟨e, he⟩ : ∃ e, us[i]? = some e := ⟨us[i]'(by omega), List.getElem?_eq_getElem _⟩
      have heB := su e (List.mem_of_getElem? he)
      refine ⟨_, len_sl hT (v := a) rfl ha', ?_⟩
      refine ⟨fun _ => ?_, fun h => absurd h1 (by omega)⟩
      refine ⟨_, idx_sl hT (v := a) (n := (i : Int)) (k := i) rfl rfl ha' rfl (by omega), ?_⟩
      refine ⟨_, load_sl hT ha' he, ?_⟩
      refine ⟨_, len_sl hT (v := b) rfl hb', ?_⟩
      refine ⟨fun h2 => ?_, fun h2 => ?_⟩
      · obtain ⟨f, hf⟩ : ∃ e, ws[i]? = some e := ⟨ws[i]'(by omega), List.getElem?_eq_getElem _⟩
        have hfB := sw f (List.mem_of_getElem? hf)
        refine ⟨_, idx_sl hT (v := b) (n := (i : Int)) (k := i) rfl rfl hb' rfl (by omega), ?_⟩
        refine ⟨_, load_sl hT hb' hf, ?_⟩
        refine ⟨⟨by omega, by omega⟩, ?_⟩
        refine ⟨by omega, _, _, rfl, ?_⟩
        obtain ⟨r, H3, q1, q2, q3⟩ := step (e + f) (by rw [gd he, gd hf]) (by omega)
        refine ⟨r, H3, q1, ?_⟩
        refine ⟨⟨by omega, by omega⟩, ?_⟩
        exact ⟨max us.length ws.length - (i + 1), by omega, i + 1, _, r, H3, _, rfl, rfl, rfl, rfl, rfl, rfl, rfl, rfl, by omega, q2, q3⟩
      · refine ⟨by omega, _, _, rfl, ?_⟩
        obtain ⟨r, H3, q1, q2, q3⟩ := step e (by rw [gd he, gn (by omega)]; omega) (by omega)
        refine ⟨r, H3, q1, ?_⟩
        refine ⟨⟨by omega, by omega⟩, ?_⟩
        exact ⟨max us.length ws.length - (i + 1), by omega, i + 1, _, r, H3, _, rfl, rfl, rfl, rfl, rfl, rfl, rfl, rfl, by omega, q2, q3⟩
    · refine ⟨_, len_sl hT (v := b) rfl hb', ?_⟩
      refine ⟨fun h2 => ?_, fun h2 => ?_⟩
      · obtain ⟨f, hf⟩ : ∃ e, ws[i]? = some e := ⟨ws[i]'(by omega), List.getElem?_eq_getElem _⟩
        have hfB := sw f (List.mem_of_getElem? hf)
        refine ⟨_, len_sl hT (v := a) rfl ha', ?_⟩
        refine ⟨fun h => absurd h (by omega), fun _ => ?_⟩
        refine ⟨_, len_sl hT (v := b) rfl hb', ?_⟩
        refine ⟨fun _ => ?_, fun h => absurd h2 (by omega)⟩
        refine ⟨_, idx_sl hT (v := b) (n := (i : Int)) (k := i) rfl rfl hb' rfl (by omega), ?_⟩
        refine ⟨_, load_sl hT hb' hf, ?_⟩
        refine ⟨⟨by omega, by omega⟩, ?_⟩
        refine ⟨by omega, _, _, rfl, ?_⟩
        obtain ⟨r, H3, q1, q2, q3⟩ := step (0 + f) (by rw [gd hf, gn (by omega)]) (by omega)
        refine ⟨r, H3, q1, ?_⟩
        refine ⟨⟨by omega, by omega⟩, ?_⟩
        exact ⟨max us.length ws.length - (i + 1), by omega, i + 1, _, r, H3, _, rfl, rfl, rfl, rfl, rfl, rfl, rfl, rfl, by omega, q2, q3⟩
      · exact fin (by omega)

theorem rneg_run (hR : OldR S) {H : Heap} {x : AV} {xs : List Int} {X : Int} (hn : H.n + 1000 < lim) (hx : SV H x xs X) :
    Cl (ctx.plus S) 115 [x] H fun r H' => Mine H H.n r (digits (-X)) H' ∧ H'.n ≤ H.n + 130 := by
  refine cl_of hR.h115 fn115 ?_
  have lx := hx.len
  have dx := hx.dl
  refine (rnormal_run S hR.h25 hR.h110 hR.h111 hR.h112 (by omega) hx.sl (by omega) hx.in64).mono ?_
  rw [hx.val]
  rintro a H1 ⟨hM1, hn1⟩
  have hs := (nrm_digits X).sml'
  refine (signed_run S hR.h112 hR.h111 (H := H1) (β := true) (by omega) hM1.rv (by omega) (fun e he => by have := hs e he; unfold In64; omega)).mono ?_
  rintro r H2 ⟨h, hm⟩
  rw [if_pos rfl, trim_of_top (nrm_digits X).2] at h
  unfold negL at h
  rw [negd] at h
  exact ⟨h.up hM1.n (fun A hA => hM1.keep A hA (by omega)), by omega⟩
theorem rsub_run (hR : OldR S) {H : Heap} {x y : AV} {xs ys : List Int} {X Y : Int} (hn : H.n + 2000 < lim) (hx : SV H x xs X) (hy : SV H y ys Y) :
    Cl (ctx.plus S) 30 [x, y] H fun r H' => Mine H H.n r (digits (X - Y)) H' ∧ H'.n ≤ H.n + 550 := by
  refine cl_of hR.h30 fn30 ?_
  refine (rneg_run S hR (by omega) hy).mono ?_
  rintro b H1 ⟨hM1, hn1⟩
  have k1 := hM1.kp hn1
  have hl : (digits (-Y)).length ≤ 20 := by
    have h := negd Y
    have h2 := congrArg List.length h
    simp at h2
    have := hy.dl
    omega
  have hs := (nrm_digits (-Y)).sml'
  refine (radd_run S hR (H := H1) (x := x) (y := b) (Y := -Y) (by omega) (hx.kp k1) ⟨hM1.toSl, fun e he => by have := hs e he; unfold In64; omega, hl, val_digits _, hl⟩).mono ?_
  rintro r H2 ⟨h, hm⟩
  rw [show X + -Y = X - Y by omega] at h
  exact ⟨h.up hM1.n (fun A hA => hM1.keep A hA (by omega)), by omega⟩
theorem rsign_run (hR : OldR S) {H : Heap} {x : AV} {xs : List Int} {X : Int} (hn : H.n + 1000 < lim) (hx : Sl H x xs) (h64 : ∀ e ∈ xs, In64 e) (hl : xs.length ≤ 25) (hv : val xs = X) (hd : (digits X).length ≤ 25) :
    Cl (ctx.plus S) 117 [x] H fun r H' => r = iv (cmpI X 0) ∧ Kp H H' 140 := by
  refine cl_of hR.h117 fn117 ?_
  have hT : (ctx.plus S).ty = tget := rfl
  refine (rnormal_run S hR.h25 hR.h110 hR.h111 hR.h112 (by omega) hx (by omega) h64).mono ?_
  rw [hv]
  rintro a H1 ⟨hM1, hn1⟩
  have k1 := hM1.kp (c := 140) (by omega)
  refine ⟨_, len_sl hT (v := a) rfl hM1.toSl, ?_⟩
  refine ⟨fun h0 => ?_, fun h0 => ?_⟩
  · have hX : X = 0 := digits_nil.1 (List.eq_nil_of_length_eq_zero (by omega))
    have hfin : iv 0 = iv (cmpI X 0) ∧ Kp H H1 140 := ⟨by rw [hX]; rfl, k1⟩
    exact hfin
  · have hX : X ≠ 0 := fun h => h0 (by rw [h]; rfl)
    refine (rnegative_run S hR.h122 hM1.toSl (by omega) (nrm_digits X)).mono ?_
    rw [val_digits]
    rintro _ _ ⟨rfl, rfl⟩
    by_cases hneg : X < 0
    · rw [decide_eq_true hneg]
      have hfin : iv (-1) = iv (cmpI X 0) ∧ Kp H H1 140 := ⟨by unfold cmpI; rw [if_pos hneg], k1⟩
      exact hfin
    · rw [decide_eq_false hneg]
      have hfin : iv 1 = iv (cmpI X 0) ∧ Kp H H1 140 := ⟨by unfold cmpI; rw [if_neg hneg, if_pos (by omega)], k1⟩
      exact hfin
end Go.PI

