/- Own work of the verifier, group RefC: PiRef4 PiRef5. -/
import Derived.Test.YtgmhmahdmbdngaaGreatDoorRefB
set_option linter.all false
set_option linter.deprecated false
/- The reference's Cmp, less, Mul. -/
open Go.Proofs
namespace Go.PI
open IM
theorem fn32 : ctx.fn 32 = some c32 := by kernel_rfl
set_option maxRecDepth 10000
set_option maxHeartbeats 4000000
variable (S : FuncId → Option (List AV → Heap → Option (AV × Heap)))
theorem ex44 (T : List AV) (h : T.length = 44) : T = [T.getD 0 undefA, T.getD 1 undefA, T.getD 2 undefA, T.getD 3 undefA, T.getD 4 undefA, T.getD 5 undefA, T.getD 6 undefA, T.getD 7 undefA, T.getD 8 undefA, T.getD 9 undefA, T.getD 10 undefA, T.getD 11 undefA, T.getD 12 undefA, T.getD 13 undefA, T.getD 14 undefA, T.getD 15 undefA, T.getD 16 undefA, T.getD 17 undefA, T.getD 18 undefA, T.getD 19 undefA, T.getD 20 undefA, T.getD 21 undefA, T.getD 22 undefA, T.getD 23 undefA, T.getD 24 undefA, T.getD 25 undefA, T.getD 26 undefA, T.getD 27 undefA, T.getD 28 undefA, T.getD 29 undefA, T.getD 30 undefA, T.getD 31 undefA, T.getD 32 undefA, T.getD 33 undefA, T.getD 34 undefA, T.getD 35 undefA, T.getD 36 undefA, T.getD 37 undefA, T.getD 38 undefA, T.getD 39 undefA, T.getD 40 undefA, T.getD 41 undefA, T.getD 42 undefA, T.getD 43 undefA] := by
  have := expand T
  rw [h] at this
  exact this
theorem cmpI_sub (a b : Int) : cmpI (a - b) 0 = cmpI a b := by unfold cmpI; (repeat' split) <;> first | rfl | (exfalso; omega)
theorem rcmp_run (hR : OldR S) {H : Heap} {x y : AV} {xs ys : List Int} {X Y : Int} (hn : H.n + 4000 < lim) (hx : SV H x xs X) (hy : SV H y ys Y) :
    Cl (ctx.plus S) 34 [x, y] H fun r H' => r = iv (cmpI X Y) ∧ Kp H H' 700 := by
  refine cl_of hR.h34 fn34 ?_
  refine (rsub_run S hR (by omega) hx hy).mono ?_
  rintro a H1 ⟨hM1, hn1⟩
  have k1 := hM1.kp hn1
  have hs := (nrm_digits (X - Y)).sml'
  have hl : (digits (X - Y)).length ≤ 21 := by
    have hx1 := (abs_dig X).val.2
    have hy1 := (abs_dig Y).val.2
    have ax := abs_len (nrm_digits X)
    have ay := abs_len (nrm_digits Y)
    rw [val_digits] at hx1 hy1 ax ay
    rw [ax] at hx1
    rw [ay] at hy1
    have p1 := pw_mono hx.dl
    have p2 := pw_mono hy.dl
    have p3 : pw 21 = 100000000 * pw 20 := rfl
    have p4 := pw_pos 20
    exact len_of ⟨by omega, by omega⟩
  refine (rsign_run S hR (H := H1) (X := X - Y) (by omega) hM1.toSl (fun e he => by have := hs e he; unfold In64; omega) (by omega) (val_digits _) (by omega)).mono ?_
  rintro _ H2 ⟨rfl, k2⟩
  have hfin : iv (cmpI (X - Y) 0) = iv (cmpI X Y) ∧ Kp H H2 700 := ⟨by rw [cmpI_sub], k1.trans k2 (by omega)⟩
  exact hfin
theorem less_run (hR : OldR S) {H : Heap} {x y : AV} {xs ys : List Int} (hx : Sl H x xs) (hy : Sl H y ys) (lx : xs.length ≤ 1000) (ly : ys.length ≤ 1000) (dx : Dig xs) (dy : Dig ys) (tx : Top xs) (ty : Top ys) :
    Cl (ctx.plus S) 190 [x, y] H fun r H' => r = .bool (decide (val xs < val ys)) ∧ H = H' := by
  refine cl_of hR.h190 fn190 ?_
  have hT : (ctx.plus S).ty = tget := rfl
  have fin : ∀ β : Bool, (β = true ↔ val xs < val ys) → AV.bool β = .bool (decide (val xs < val ys)) ∧ H = H := fun β h => by
    refine ⟨?_, rfl⟩
    congr 1
    cases β with
    | true => exact (decide_eq_true (h.1 rfl)).symm
    | false => exact (decide_eq_false (fun hh => by have := h.2 hh; cases this)).symm
  refine ⟨_, len_sl hT (v := x) rfl hx, ?_⟩
  refine ⟨_, len_sl hT (v := y) rfl hy, ?_⟩
  refine ⟨fun hne => ?_, fun heq => ?_⟩
  · refine ⟨_, len_sl hT (v := x) rfl hx, ?_⟩
    refine ⟨_, len_sl hT (v := y) rfl hy, ?_⟩
    refine ⟨fun h => ?_, fun h => ?_⟩
    · exact fin true ⟨fun _ => lt_len dx dy ty (by omega), fun _ => rfl⟩
    · exact fin false ⟨fun h' => by simp at h', fun h' => by have := lt_len dy dx tx (by omega); omega⟩
  · have hll : xs.length = ys.length := by omega
    refine ⟨_, len_sl hT (v := x) rfl hx, ?_⟩
    refine ⟨⟨by omega, by omega⟩, ?_⟩
    refine ⟨fun m s => ∃ (k : Nat) (n : Int) (T : List AV), s = ⟨T, H, []⟩ ∧ T.length = 41 ∧ T.getD 0 undefA = x ∧ T.getD 1 undefA = y ∧ T.getD 5 undefA = iv n ∧ m = k ∧ n = (k : Int) - 1 ∧ k ≤ xs.length ∧ xs.drop k = ys.drop k, ⟨xs.length, ?_⟩, ?_⟩
    · exact ⟨xs.length, _, _, rfl, rfl, rfl, rfl, rfl, rfl, rfl, Nat.le_refl _, by rw [List.drop_length, hll, List.drop_length]⟩
    · rintro m s ⟨k, n, T, rfl, hTl, h0t, h1t, h5t, hm, rfl, hk, hd⟩
      obtain ⟨J, rfl⟩ : ∃ J : Nat → AV, T = [x, y, J 2, J 3, J 4, iv ((k : Int) - 1), J 6, J 7, J 8, J 9, J 10, J 11, J 12, J 13, J 14, J 15, J 16, J 17, J 18, J 19, J 20, J 21, J 22, J 23, J 24, J 25, J 26, J 27, J 28, J 29, J 30, J 31, J 32, J 33, J 34, J 35, J 36, J 37, J 38, J 39, J 40] := ⟨fun i => T.getD i undefA, (ex41 T hTl).trans (by rw [h0t, h1t, h5t])⟩
      clear hTl h0t h1t h5t
      refine ⟨fun hge => ?_, fun hlt => ?_⟩
      · obtain ⟨k, rfl⟩ : ∃ j, k = j + 1 := ⟨k - 1, by omega⟩
        obtain ⟨e, he⟩ : ∃ e, xs[k]? = some e := ⟨xs[k]'(by omega), List.getElem?_eq_getElem _⟩
        obtain ⟨f, hf⟩ : ∃ e, ys[k]? = some e := ⟨ys[k]'(by omega), List.getElem?_eq_getElem _⟩
        have hnx : xs ≠ [] := by intro h; subst h; simp at he
        have hny : ys ≠ [] := by intro h; subst h; simp at hf
        obtain ⟨bx, ox, hbx, hax⟩ := hx.addr hnx
        obtain ⟨b2, o2, hb2, ha2⟩ := hy.addr hny
        have lx : loadE (ctx.plus S) 3 (addr x k) H = some (iv e) := load_sl hT hx he
        have ly : loadE (ctx.plus S) 3 (addr y k) H = some (iv f) := load_sl hT hy hf
        have lx' : loadE (ctx.plus S) 3 (.ptr bx (ox + k)) H = some (iv e) := by rw [← hax]; exact lx
        have ly' : loadE (ctx.plus S) 3 (.ptr b2 (o2 + k)) H = some (iv f) := by rw [← ha2]; exact ly
        have si : ∀ n : Int, (iv n).same (iv n) = true := fun n => by simp [AV.same, AV.sames]
        have ix : ∀ {ρ : Operand → Option AV} {a i : Operand}, ρ a = some x → ρ i = some (iv (((k + 1 : Nat) : Int) - 1)) → pureE (ctx.plus S) ρ (.indexAddr 22 a i) = some (addr x k) := fun h1 h2 => idx_sl hT (n := ((k + 1 : Nat) : Int) - 1) h1 h2 hx (by omega) (by omega)
        have iy : ∀ {ρ : Operand → Option AV} {a i : Operand}, ρ a = some y → ρ i = some (iv (((k + 1 : Nat) : Int) - 1)) → pureE (ctx.plus S) ρ (.indexAddr 22 a i) = some (addr y k) := fun h1 h2 => idx_sl hT (n := ((k + 1 : Nat) : Int) - 1) h1 h2 hy (by omega) (by omega)
        refine ⟨_, ix rfl rfl, ?_⟩
        refine ⟨_, lx, ?_⟩
        refine ⟨_, iy rfl rfl, ?_⟩
        refine ⟨_, ly, ?_⟩
        have hcmp : e ≠ f → cmpI e f = cmpI (val xs) (val ys) := fun hne => cmp_dif (dx.nrm tx) (dy.nrm ty) (by
          rcases sgn_val (dx.nrm tx) with ⟨-, h, -⟩ | ⟨h1, -, -, -⟩ | ⟨-, -, h, -⟩
          · exact absurd h hnx
          · rcases sgn_val (dy.nrm ty) with ⟨-, h, -⟩ | ⟨h2, -, -, -⟩ | ⟨-, -, h, -⟩
            · exact absurd h hny
            · rw [h1, h2]
            · have := dy.val.1; omega
          · have := dx.val.1; omega) he hf hne hd
        refine ⟨fun hne => ?_, fun heq2 => ?_⟩
        · refine ⟨draw_of2 H 9 (by kernel_rfl) rfl ?_ ?_ ?_, ?_⟩
          · exact ⟨trivial, trivial, trivial, ⟨_, _, _, congrArg some (hax _), hbx, lx', si _⟩, trivial, trivial, trivial, ⟨_, _, _, congrArg some (ha2 _), hb2, ly', si _⟩, trivial, trivial⟩
          · repeat' (first | exact trivial | refine ⟨fun _ _ => rfl, ?_⟩)
          · repeat' (first | exact trivial | refine ⟨Nat.le_refl _, ?_⟩)
          have hc := hcmp hne
          refine ⟨_, ix rfl rfl, ?_⟩
          refine ⟨_, lx, ?_⟩
          refine ⟨_, iy rfl rfl, ?_⟩
          refine ⟨_, ly, ?_⟩
          refine ⟨fun hl => ?_, fun hl => ?_⟩
          · refine ⟨draw_of2 H 10 (by kernel_rfl) rfl ?_ ?_ ?_, ?_⟩
            · exact ⟨trivial, trivial, trivial, ⟨_, _, _, congrArg some (hax _), hbx, lx', si _⟩, trivial, trivial, trivial, ⟨_, _, _, congrArg some (ha2 _), hb2, ly', si _⟩, trivial, trivial, trivial⟩
            · repeat' (first | exact trivial | refine ⟨fun _ _ => rfl, ?_⟩)
            · repeat' (first | exact trivial | refine ⟨Nat.le_refl _, ?_⟩)
            refine fin true ⟨fun _ => ?_, fun _ => rfl⟩
            unfold cmpI at hc
            rw [if_pos hl] at hc
            split at hc
            · assumption
            · split at hc <;> omega
          · refine ⟨draw_of2 H 10 (by kernel_rfl) rfl ?_ ?_ ?_, ?_⟩
            · exact ⟨trivial, trivial, trivial, ⟨_, _, _, congrArg some (hax _), hbx, lx', si _⟩, trivial, trivial, trivial, ⟨_, _, _, congrArg some (ha2 _), hb2, ly', si _⟩, trivial, trivial, trivial⟩
            · repeat' (first | exact trivial | refine ⟨fun _ _ => rfl, ?_⟩)
            · repeat' (first | exact trivial | refine ⟨Nat.le_refl _, ?_⟩)
            refine fin false ⟨fun h => by simp at h, fun h => ?_⟩
            unfold cmpI at hc
            rw [if_neg (by omega), if_pos (by omega), if_pos h] at hc
            omega
        · refine ⟨draw_of2 H 9 (by kernel_rfl) rfl ?_ ?_ ?_, ?_⟩
          · exact ⟨trivial, trivial, trivial, ⟨_, _, _, congrArg some (hax _), hbx, lx', si _⟩, trivial, trivial, trivial, ⟨_, _, _, congrArg some (ha2 _), hb2, ly', si _⟩, trivial, trivial⟩
          · repeat' (first | exact trivial | refine ⟨fun _ _ => rfl, ?_⟩)
          · repeat' (first | exact trivial | refine ⟨Nat.le_refl _, ?_⟩)
          refine ⟨⟨by omega, by omega⟩, ?_⟩
          exact ⟨k, by omega, k, _, _, rfl, rfl, rfl, rfl, rfl, rfl, by omega, by omega, by rw [drop_of_get he, drop_of_get hf, heq2, hd]⟩
      · have hk0 : k = 0 := by omega
        subst hk0
        have hxy : xs = ys := by simpa using hd
        exact fin false ⟨fun h => by simp at h, fun h => by rw [hxy] at h; omega⟩
theorem appendE_ge {C : Ctx} {ts : List TypeId} {s x r : AV} {H H' : Heap} (h : appendE C ts s x H = some (r, H')) : H.n ≤ H'.n := by
  have hp : ∀ (G : Heap) (b : Blk), (G.push b).n = G.n + 1 := fun _ _ => rfl
  have hs : ∀ (G : Heap) (A : Nat) (b : Blk), (G.set A b).n = G.n := fun _ _ _ => rfl
  unfold appendE at h
  repeat' split at h
  all_goals first
    | (cases h; done)
    | (cases h; first | exact Nat.le_refl _ | (rw [hp]; omega) | (rw [hs]; exact Nat.le_refl _) | (rw [hp, hs]; omega))
end Go.PI

/- The reference's Mul. -/
open Go.Proofs
namespace Go.PI
open IM
set_option maxRecDepth 10000
set_option maxHeartbeats 4000000
variable (S : FuncId → Option (List AV → Heap → Option (AV × Heap)))
theorem val_take_snoc {us : List Int} {i : Nat} {e : Int} (h : us[i]? = some e) : val (us.take (i + 1)) = val (us.take i) + pw i * e := by
  have hl := (List.getElem?_eq_some_iff.1 h).1
  rw [take_snoc h, val_snoc, List.length_take, Nat.min_eq_left (by omega)]
/-- the value of a list of elements below the base in size -/
theorem sml_val {us : List Int} (h : Sml us) : -pw us.length < val us ∧ val us < pw us.length := by
  induction us with
  | nil => decide
  | cons x xs ih =>
    have h1 := h x (by simp)
    have h2 := ih fun y hy => h y (by simp [hy])
    simp only [val, List.length_cons, pw]
    omega
theorem abs_mul_lt {a b p q : Int} (ha : -p < a ∧ a < p) (hb : -q < b ∧ b < q) : -(p * q) < a * b ∧ a * b < p * q := by
  have h := mul_bd (a := a) (b := b) (m := p - 1) (n := q) (by omega) (by omega)
  have e : (p - 1) * q = p * q - q := by rw [Int.sub_mul]; omega
  rw [e] at h
  omega
theorem rmul_run (hR : OldR S) {H : Heap} {x y : AV} {xs ys : List Int} {X Y : Int} (hn : H.n + 20000 < lim) (hx : SV H x xs X) (hy : SV H y ys Y) (hxy : (digits X).length + (digits Y).length ≤ 20) :
    Cl (ctx.plus S) 32 [x, y] H fun r H' => Mine H H.n r (digits (X * Y)) H' ∧ H'.n ≤ H.n + 10000 := by
  refine cl_of hR.h32 fn32 ?_
  have hT : (ctx.plus S).ty = tget := rfl
  have lx := hx.len
  have ly := hy.len
  refine (rnormal_run S hR.h25 hR.h110 hR.h111 hR.h112 (by omega) hx.sl (by omega) hx.in64).mono ?_
  rw [hx.val]
  rintro a H1 ⟨hM1, hn1⟩
  have k1 := hM1.kp (c := 120) (by omega)
  have k1m := k1.m
  have k1n := k1.n
  refine (rnormal_run S hR.h25 hR.h110 hR.h111 hR.h112 (H := H1) (by omega) (hy.sl.kp k1) (by omega) hy.in64).mono ?_
  rw [hy.val]
  rintro b H2 ⟨hM2, hn2⟩
  have k2 := hM2.kp (c := 120) (by omega)
  have k2m := k2.m
  have k2n := k2.n
  have ha : Sl H2 a (digits X) := hM1.toSl.kp k2
  have hb : Sl H2 b (digits Y) := hM2.toSl
  have su := (nrm_digits X).sml'
  have sw := (nrm_digits Y).sml'
  have vu := val_digits X
  have vw := val_digits Y
  obtain ⟨us, hus⟩ : ∃ us, digits X = us := ⟨_, rfl⟩
  obtain ⟨ws, hws⟩ : ∃ ws, digits Y = ws := ⟨_, rfl⟩
  rw [hus] at ha su vu hxy
  rw [hws] at hb sw vw hxy
  have bw := sml_val sw
  rw [vw] at bw
  have hP : pw us.length * pw ws.length ≤ pw 20 := by rw [← pw_add]; exact pw_mono hxy
  have bnd : ∀ i : Nat, i ≤ us.length → -pw 20 < val (us.take i) * Y ∧ val (us.take i) * Y < pw 20 := fun i hi => by
    have s1 := sml_val (us := us.take i) (fun z hz => su z (List.mem_of_mem_take hz))
    rw [List.length_take, Nat.min_eq_left hi] at s1
    have h := abs_mul_lt s1 bw
    have : pw i * pw ws.length ≤ pw us.length * pw ws.length := Int.mul_le_mul_of_nonneg_right (pw_mono hi) (by have := pw_pos ws.length; omega)
    omega
  have fin : ∀ (o : AV) (H' : Heap), Sl H' o (digits (val (us.take us.length) * Y)) → H2.n ≤ H'.n → (∀ A, A < H2.n → H'.get A = H2.get A) → H'.n ≤ H2.n + 470 * us.length → Cl (ctx.plus S) 25 [o] H' fun r H3 => Mine H H.n r (digits (X * Y)) H3 ∧ H3.n ≤ H.n + 10000 := by
    intro o H' ho hn1' hk' hn2'
    rw [List.take_length, vu] at ho
    have hb2 := bnd us.length (Nat.le_refl _)
    rw [List.take_length, vu] at hb2
    have hsv := SV.of ho hb2
    have hln := hsv.len
    refine (rnormal_run S hR.h25 hR.h110 hR.h111 hR.h112 (H := H') (by omega) ho (by omega) hsv.in64).mono ?_
    rw [val_digits]
    rintro r H3 ⟨h1, h2⟩
    exact ⟨h1.up (by omega) (fun A hA => by rw [hk' A (by omega), k2.get A (by omega), k1.get A hA]), by omega⟩
  refine ⟨fun m s => ∃ (i : Nat) (n : Int) (o : AV) (H' : Heap) (T : List AV),
    s = ⟨T, H', []⟩ ∧ T.length = 44 ∧ T.getD 0 undefA = a ∧ T.getD 1 undefA = b ∧ T.getD 5 undefA = o ∧ T.getD 6 undefA = iv n ∧ m = us.length - i ∧ n = i ∧ i ≤ us.length ∧ Sl H' o (digits (val (us.take i) * Y)) ∧ H2.n ≤ H'.n ∧ (∀ A, A < H2.n → H'.get A = H2.get A) ∧ H'.n ≤ H2.n + 470 * i, ⟨us.length, ?_⟩, ?_⟩
  · exact ⟨0, _, .nils, H2, _, rfl, rfl, rfl, rfl, rfl, rfl, rfl, rfl, Nat.zero_le _, by simp [val]; rfl, Nat.le_refl _, fun _ _ => rfl, by omega⟩
  · rintro m s ⟨i, n, o, H', T, rfl, hTl, h0t, h1t, h5t, h6t, rfl, rfl, hi, ho, hn3, hk3, hn4⟩
    obtain ⟨J, rfl⟩ : ∃ J : Nat → AV, T = [a, b, J 2, J 3, J 4, o, iv i, J 7, J 8, J 9, J 10, J 11, J 12, J 13, J 14, J 15, J 16, J 17, J 18, J 19, J 20, J 21, J 22, J 23, J 24, J 25, J 26, J 27, J 28, J 29, J 30, J 31, J 32, J 33, J 34, J 35, J 36, J 37, J 38, J 39, J 40, J 41, J 42, J 43] := ⟨fun i => T.getD i undefA, (ex44 T hTl).trans (by rw [h0t, h1t, h5t, h6t])⟩
    clear hTl h0t h1t h5t h6t
    have ha' : Sl H' a us := ha.mono hk3
    have hb' : Sl H' b ws := hb.mono hk3
    refine ⟨_, len_sl hT (v := a) rfl ha', ?_⟩
    refine ⟨fun hlt => ?_, fun hge => ?_⟩
    · obtain ⟨e, he⟩ : ∃ e, us[i]? = some e := ⟨us[i]'(by omega), List.getElem?_eq_getElem _⟩
      have heB := su e (List.mem_of_getElem? he)
      refine ⟨by omega, ⟨by omega, by omega, by omega⟩, ?_⟩
      rw [show ((i : Int)).toNat = i by omega, show (List.replicate i t3.zero.cells).flatten = ints (List.replicate i 0) from ints_zeros _]
      have hp := Heap.get_push (H := H') (b := .cells true 3 (ints (List.replicate i 0))) (by omega)
      have hpn : (H'.push (.cells true 3 (ints (List.replicate i 0)))).n = H'.n + 1 := rfl
      generalize H'.push (.cells true 3 (ints (List.replicate i 0))) = Hp at hp hpn ⊢
      have hkp : ∀ A, A < H'.n → Hp.get A = H'.get A := fun A hA => by rw [hp, if_neg (by omega)]
      have hM0 : Mine H' H'.n (.sl H'.n 0 i i) (List.replicate i 0) Hp := by
        have := Mine.fresh_refl (H := H') (b := H'.n) (zs := List.replicate i 0) (v := .sl H'.n 0 i i) (l := i) (H1 := Hp) (by omega) hkp ⟨by rw [hp, if_pos rfl], by simp, .inl ⟨i, rfl, Nat.le_refl _, by simp⟩⟩ (Nat.le_refl _)
        rwa [List.take_of_length_le (by simp)] at this
      refine ⟨fun m s => ∃ (k : Nat) (n : Int) (r : AV) (H3 : Heap) (T : List AV),
        s = ⟨T, H3, []⟩ ∧ T.length = 44 ∧ T.getD 0 undefA = a ∧ T.getD 1 undefA = b ∧ T.getD 5 undefA = o ∧ T.getD 6 undefA = iv i ∧ T.getD 7 undefA = r ∧ T.getD 8 undefA = iv n ∧ m = ws.length - k ∧ n = k ∧ k ≤ ws.length ∧ Mine H' H'.n r (List.replicate i 0 ++ mulL e (ws.take k)) H3 ∧ H3.n ≤ H'.n + 1 + 2 * k, ⟨ws.length, ?_⟩, ?_⟩
      · exact ⟨0, _, _, Hp, _, rfl, rfl, rfl, rfl, rfl, rfl, rfl, rfl, rfl, rfl, Nat.zero_le _, by simpa [mulL] using hM0, by omega⟩
      · rintro m s ⟨k, n, r, H3, T, rfl, hTl, h0t, h1t, h5t, h6t, h7t, h8t, rfl, rfl, hk, hM3, hn5⟩
        obtain ⟨J', rfl⟩ : ∃ J : Nat → AV, T = [a, b, J 2, J 3, J 4, o, iv i, r, iv k, J 9, J 10, J 11, J 12, J 13, J 14, J 15, J 16, J 17, J 18, J 19, J 20, J 21, J 22, J 23, J 24, J 25, J 26, J 27, J 28, J 29, J 30, J 31, J 32, J 33, J 34, J 35, J 36, J 37, J 38, J 39, J 40, J 41, J 42, J 43] := ⟨fun i => T.getD i undefA, (ex44 T hTl).trans (by rw [h0t, h1t, h5t, h6t, h7t, h8t])⟩
        clear hTl h0t h1t h5t h6t h7t h8t
        have hk4 : ∀ A, A < H'.n → H3.get A = H'.get A := fun A hA => hM3.keep A hA (by omega)
        have hn6 := hM3.n
        have ha3 : Sl H3 a us := ha'.mono hk4
        have hb3 : Sl H3 b ws := hb'.mono hk4
        refine ⟨_, len_sl hT (v := b) rfl hb3, ?_⟩
        refine ⟨fun hlt2 => ?_, fun hge2 => ?_⟩
        · obtain ⟨f, hf⟩ : ∃ e, ws[k]? = some e := ⟨ws[k]'(by omega), List.getElem?_eq_getElem _⟩
          have hfB := sw f (List.mem_of_getElem? hf)
          have hef := mul_bd (a := e) (b := f) (m := 100000000) (n := 100000000) (by omega) (by omega)
          obtain ⟨bx, ox, hbx, hax⟩ := ha3.addr (by intro h; subst h; simp at he)
          obtain ⟨b2, o2, hb2, ha2⟩ := hb3.addr (by intro h; subst h; simp at hf)
          have lx : loadE (ctx.plus S) 3 (addr a i) H3 = some (iv e) := load_sl hT ha3 he
          have ly : loadE (ctx.plus S) 3 (addr b k) H3 = some (iv f) := load_sl hT hb3 hf
          have lx' : loadE (ctx.plus S) 3 (.ptr bx (ox + i)) H3 = some (iv e) := by rw [← hax]; exact lx
          have ly' : loadE (ctx.plus S) 3 (.ptr b2 (o2 + k)) H3 = some (iv f) := by rw [← ha2]; exact ly
          have si : ∀ n : Int, (iv n).same (iv n) = true := fun n => by simp [AV.same, AV.sames]
          refine ⟨_, idx_sl hT (v := a) (n := (i : Int)) (k := i) rfl rfl ha3 rfl (by omega), ?_⟩
          refine ⟨_, lx, ?_⟩
          refine ⟨_, idx_sl hT (v := b) (n := (k : Int)) (k := k) rfl rfl hb3 rfl (by omega), ?_⟩
          refine ⟨_, ly, ?_⟩
          refine ⟨⟨by omega, by omega⟩, ?_⟩
          refine ⟨by omega, _, _, rfl, ?_⟩
          obtain ⟨r2, H4, hap, hM4, hn7⟩ := append_mine hT (C := ctx.plus S) (e := e * f) (by omega) (by simp [mulL]; omega) hM3
          have hge4 := appendE_ge hap
          refine ⟨r2, H4, hap, ?_⟩
          refine ⟨draw_of4 [[], [], [], [], [true, false, false, false, false, false, false, false, false, false, false, false, false, false], [], [], [], [true, false, false, false, false, false, false, false, false, false, false, false, false, false], [], [], [], []] (by kernel_rfl) rfl ?_ ?_ ?_, ?_⟩
          · exact ⟨trivial, trivial, trivial, trivial, ⟨_, _, _, congrArg some (hax _), lx', si _, rfl, trivial⟩, trivial, trivial, trivial, ⟨_, _, _, congrArg some (ha2 _), ly', si _, rfl, trivial⟩, trivial, trivial, trivial, trivial, trivial⟩
          · exact ⟨trivial, trivial, trivial, trivial, trivial, trivial, trivial, trivial, trivial, trivial, ⟨_, _, _, rfl⟩, trivial, trivial, trivial⟩
          · repeat' (first | exact trivial | refine ⟨Nat.le_refl _, ?_⟩ | refine ⟨Nat.le_succ _, ?_⟩ | refine ⟨hge4, ?_⟩)
          refine ⟨⟨by omega, by omega⟩, ?_⟩
          refine ⟨ws.length - (k + 1), by omega, k + 1, _, r2, H4, _, rfl, rfl, rfl, rfl, rfl, rfl, rfl, rfl, rfl, rfl, by omega, ?_, by omega⟩
          rw [take_snoc hf, mulL_snoc, ← List.append_assoc]
          exact hM4
        · have hkl : k = ws.length := by omega
          subst hkl
          rw [List.take_length] at hM3
          have hrow : val (List.replicate i 0 ++ mulL e ws) = pw i * (e * Y) := by
            rw [val_append, val_zeros, mulL_val, vw, List.length_replicate]; omega
          have hrb : -pw 20 < pw i * (e * Y) ∧ pw i * (e * Y) < pw 20 := by
            have h1 := abs_mul_lt (a := e) (b := Y) (p := 100000000) (q := pw ws.length) heB bw
            have h2 := mul_bd (a := pw i) (b := e * Y) (m := pw i) (n := 100000000 * pw ws.length - 1) (by have := pw_pos i; omega) (by omega)
            have e1 : pw i * (100000000 * pw ws.length - 1) = pw (i + 1) * pw ws.length - pw i := by rw [pw_succ]; grind
            rw [e1] at h2
            have h3 : pw (i + 1) * pw ws.length ≤ pw us.length * pw ws.length := Int.mul_le_mul_of_nonneg_right (pw_mono (by omega)) (by have := pw_pos ws.length; omega)
            have := pw_pos i
            omega
          have svr : SV H3 r (List.replicate i 0 ++ mulL e ws) (pw i * (e * Y)) := by
            refine ⟨hM3.sl, fun z hz => ?_, by simp [mulL]; omega, hrow, len_of hrb⟩
            rcases List.mem_append.1 hz with h | h
            · have := (List.mem_replicate.1 h).2
              unfold In64; omega
            · obtain ⟨f, hf, rfl⟩ := List.mem_map.1 h
              have hfB := sw f hf
              have := mul_bd (a := e) (b := f) (m := 100000000) (n := 100000000) (by omega) (by omega)
              unfold In64; omega
          have svo : SV H3 o (digits (val (us.take i) * Y)) (val (us.take i) * Y) := SV.of (ho.mono hk4) (bnd i hi)
          refine (radd_run S hR (H := H3) (by omega) svo svr).mono ?_
          rintro o2 H4 ⟨hM5, hn8⟩
          refine ⟨⟨by omega, by omega⟩, ?_⟩
          refine ⟨us.length - (i + 1), by omega, i + 1, _, o2, H4, _, rfl, rfl, rfl, rfl, rfl, rfl, rfl, rfl, by omega, ?_, by have := hM5.n; omega, fun A hA => by rw [hM5.keep A (by omega) (by omega), hk4 A (by omega)]; exact hk3 A hA, by omega⟩
          rw [val_take_snoc he, show (val (us.take i) + pw i * e) * Y = val (us.take i) * Y + pw i * (e * Y) by rw [Int.add_mul, Int.mul_assoc]]
          exact hM5.toSl
    · have hil : i = us.length := by omega
      subst hil
      exact fin o H' ho hn3 hk3 hn4
end Go.PI

