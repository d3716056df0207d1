/- Own work of the verifier: PiRoot PiHquad PiDivs PiRgd PiHasd PiRedu. -/
import Derived.Test.YtgmhmahdmbdngaaGreatDoorFlAT
set_option linter.all false
set_option linter.deprecated false
open Go.Proofs
namespace Go.PI
open IM
theorem fn141 : ctx.fn 141 = some c141 := by kernel_rfl
theorem fn202 : ctx.fn 202 = some c202 := by kernel_rfl
theorem fn205 : ctx.fn 205 = some c205 := by kernel_rfl
theorem fn206 : ctx.fn 206 = some c206 := by kernel_rfl
theorem fn239 : ctx.fn 239 = some c239 := by kernel_rfl
set_option maxRecDepth 10000
set_option maxHeartbeats 4000000
theorem wrap_u {n : Int} (h : 0 <= n /\ n < 9223372036854775808) : IntKind.u64.wrap n = n := by
 simp [IntKind.wrap, IntKind.bits, IntKind.signed]; omega
theorem wrap_i {n : Int} (h : 0 <= n /\ n < 9223372036854775808) : IntKind.i64.wrap n = n := by
 simp [IntKind.wrap, IntKind.bits, IntKind.signed]; omega
theorem conv_u {C : Ctx} {ρ : Operand -> Option AV} {x : Operand} {n : Int} (hT : C.ty = tget) (hx : ρ x = some (iv n)) (h : 0 <= n /\ n < 9223372036854775808) : pureE C ρ (.convert 3 240 x) = some (.int .u64 n) := by
 have h3 : C.ty 3 = some t3 := by rw [hT]; rfl
 have h4 : C.ty 240 = some t240 := by rw [hT]; rfl
 simp only [pureE, h3, h4, hx, t240, wrap_u h]
theorem conv_i {C : Ctx} {ρ : Operand -> Option AV} {x : Operand} {n : Int} (hT : C.ty = tget) (hx : ρ x = some (.int .u64 n)) (h : 0 <= n /\ n < 9223372036854775808) : pureE C ρ (.convert 240 3 x) = some (iv n) := by
 have h3 : C.ty 3 = some t3 := by rw [hT]; rfl
 have h4 : C.ty 240 = some t240 := by rw [hT]; rfl
 simp only [pureE, h3, h4, hx, t3, wrap_i h]
theorem shr_u {C : Ctx} {t : TypeId} {x y : Operand} {k : IntKind} {m : Int} : binE C .shr t x y (.int .u64 m) (.int k 1) = some (.int .u64 (m / 2)) := by
 simp [binE, isShift, shiftE, IntKind.bits, Int.fdiv_eq_ediv]
theorem mat_some {o : Option AV} {v : AV} {K : AV -> Prop} (h : o = some v) (k : K v) : match (generalizing := false) o with
  | some v => K v
  | none => False := by rw [h]; exact k
variable (S : FuncId -> Option (List AV -> Heap -> Option (AV × Heap)))
theorem search_run (h205 : S 205 = none) {H : Heap} {n : Int} {g : FuncId} {caps : List AV} (P : Int -> Prop) (hn : 0 <= n /\ n <= 1000000000000000000)
  (hP : ∀ s : Int, 0 <= s -> s < n -> Cl (ctx.plus S) g ([] ++ [iv s] ++ caps) H fun r H' => ((r = .bool true /\ P s) ∨ (r = .bool false /\ ¬ P s)) /\ H = H')
  (mono : ∀ s t : Int, s <= t -> P s -> P t) :
  Cl (ctx.plus S) 205 [iv n, .fn g [] caps] H fun r H' => (∃ k, r = iv k /\ (0 <= k /\ k <= n) /\ (∀ s, s < k -> 0 <= s -> ¬ P s) /\ (k < n -> P k)) /\ H = H' := by
 refine cl_of h205 fn205 ?_
 have hT : (ctx.plus S).ty = tget := rfl
 refine ⟨fun m s => ∃ (i j : Int) (j2 j3 j4 j7 j8 j9 j10 j11 j12 j13 j14 j15 j16 j17 j18 j19 j20 j21 j22 j23 j24 j25 : AV),
  s = ⟨[iv n, .fn g [] caps, j2, j3, j4, iv i, iv j, j7, j8, j9, j10, j11, j12, j13, j14, j15, j16, j17, j18, j19, j20, j21, j22, j23, j24, j25], H, []⟩ /\ (m : Int) = j - i /\ (0 <= i /\ i <= j /\ j <= n) /\ (∀ s, s < i -> 0 <= s -> ¬ P s) /\ (j < n -> P j), ⟨n.toNat, ?_⟩, ?_⟩
 ·exact ⟨0, n, _, _, _, _, _, _, _, _, _, _, _, _, _, _, _, _, _, _, _, _, _, _, rfl, by omega, by omega, fun s h1 h2 => by omega, fun h => by omega⟩
 ·rintro m s ⟨i, j, j2, j3, j4, j7, j8, j9, j10, j11, j12, j13, j14, j15, j16, j17, j18, j19, j20, j21, j22, j23, j24, j25, rfl, hm, hij, hlo, hhi⟩
  refine ⟨fun hlt => ?_, fun hge => ?_⟩
  ·refine ⟨⟨by omega, by omega⟩, ?_⟩
   refine ⟨_, conv_u hT (x := .tmp 14) rfl ⟨by omega, by omega⟩, ?_⟩
   have hf : ∀ z : Int, z.fdiv (2 ^ (min (1:Int).toNat IntKind.u64.bits)) = z / 2 := fun z => by simp [IntKind.bits, Int.fdiv_eq_ediv]
   refine ⟨_, conv_i (n := (i + j).fdiv (2 ^ (min (1:Int).toNat IntKind.u64.bits))) hT (x := .tmp 16) rfl ⟨by rw [hf]; omega, by rw [hf]; omega⟩, ?_⟩
   rw [hf]
   refine (hP ((i + j) / 2) (by omega) (by omega)).mono ?_
   rintro r H' ⟨h, rfl⟩
   rcases h with ⟨rfl, hp⟩ | ⟨rfl, hp⟩
   ·exact ⟨((i + j) / 2 - i).toNat, by omega, i, (i + j) / 2, _, _, _, _, _, _, _, _, _, _, _, _, _, _, _, _, _, _, _, _, _, _, rfl, by omega, by omega, hlo, fun _ => hp⟩
   ·refine ⟨⟨by omega, by omega⟩, ?_⟩
    exact ⟨(j - ((i + j) / 2 + 1)).toNat, by omega, (i + j) / 2 + 1, j, _, _, _, _, _, _, _, _, _, _, _, _, _, _, _, _, _, _, _, _, _, _, rfl, by omega, by omega, fun s h1 h2 hs => hp (mono s _ (by omega) hs), hhi⟩
  ·have e : i = j := by omega
   subst e
   exact ⟨⟨i, rfl, by omega, hlo, hhi⟩, rfl⟩
theorem mul_mono {s t : Int} (h0 : 0 <= s) (h : s <= t) : s * s <= t * t := Int.mul_le_mul h h h0 (by omega)
theorem max_of2 {C : Ctx} {ρ : Operand -> Option AV} {x y : Operand} {ts : Array TypeId} {a b : Int} (hx : ρ x = some (iv a)) (hy : ρ y = some (iv b)) :
  ∃ m, pureE C ρ (.call { callee := .builtin .max, args := #[x, y], argTypes := ts }) = some (iv m) /\ a <= m /\ b <= m /\ (m = a ∨ m = b) := by
 simp only [pureE, opds, hx, hy, builtinP, foldMinMax]
 simp only [if_true]
 refine ⟨_, rfl, ?_, ?_, ?_⟩ <;> (repeat' split) <;> omega
theorem above_run (h206 : S 206 = none) {H : Heap} {b : Nat} {s n : Int} (hb : H.get b = .cells true 3 [iv n]) (hs : 0 <= s /\ s <= 1000000000) :
  Cl (ctx.plus S) 206 ([] ++ [iv s] ++ [.ptr b 0]) H fun r H' => ((r = .bool true /\ (0 <= s /\ n <= s * s)) ∨ (r = .bool false /\ ¬ (0 <= s /\ n <= s * s))) /\ H = H' := by
 refine cl_of h206 fn206 ?_
 have hT : (ctx.plus S).ty = tget := rfl
 have hb2 := mul_bd (a := s) (b := s) (m := 1000000000) (n := 1000000000) (by omega) (by omega)
 refine ⟨⟨by omega, by omega⟩, ?_⟩
 refine ⟨_, load_var hT hb, ?_⟩
 refine ⟨fun h => ?_, fun h => ?_⟩
 ·exact ⟨.inl ⟨rfl, by omega, h⟩, rfl⟩
 ·exact ⟨.inr ⟨rfl, fun hh => by omega⟩, rfl⟩
theorem rootAbove_run (h141 : S 141 = none) (h205 : S 205 = none) (h206 : S 206 = none) {H : Heap} {n : Int} (hl : H.n + 5 < lim) (hn : -1000000000 <= n /\ n <= 1000000000) :
  Cl (ctx.plus S) 141 [iv n] H fun r H' => (∃ k, r = iv k /\ 0 <= k /\ n <= k * k /\ ∀ t, 0 <= t -> n <= t * t -> k <= t) /\ Kp H H' 1 := by
 refine cl_of h141 fn141 ?_
 have hT : (ctx.plus S).ty = tget := rfl
 have hp := Heap.get_push (H := H) (b := .cells true 3 [iv n]) (by omega)
 have hpn : (H.push (.cells true 3 [iv n])).n = H.n + 1 := rfl
 have hg : (H.push (.cells true 3 [iv n])).get H.n = .cells true 3 [iv n] := by rw [hp, if_pos rfl]
 refine ⟨by omega, ?_⟩
 refine ⟨_, load_var hT hg, ?_⟩
 obtain ⟨m, e, h1, h2, h3⟩ := max_of2 (C := ctx.plus S) (ρ := opd [iv n, .ptr H.n 0, iv 0, iv n, undefA, undefA, undefA]) (x := .tmp 3) (y := .const (.int .i64 0)) (ts := #[3, 3]) rfl rfl
 refine ⟨_, e, ?_⟩
 refine ⟨_, rfl, ?_⟩
 refine (search_run S h205 (H := H.push (.cells true 3 [iv n])) (n := m) (g := 206) (caps := [.ptr H.n 0]) (fun s => 0 <= s /\ n <= s * s) (by omega) (fun s k1 k2 => above_run S h206 hg (by omega)) (fun s t h1 h2 => ⟨by omega, by have := mul_mono h2.1 h1; omega⟩)).mono ?_
 rintro _ _ ⟨⟨k, rfl, k1, k2, k3⟩, rfl⟩
 refine ⟨⟨k, rfl, by omega, ?_, fun t t1 t2 => ?_⟩, by omega, by omega, fun A hA => by rw [hp, if_neg (by omega)]⟩
 ·by_cases hkm : k < m
  ·exact (k3 hkm).2
  ·have : k = m := by omega
   subst this
   by_cases hk1 : k <= 0
   ·have : k = 0 := by omega
    subst this; omega
   ·have := Int.mul_le_mul_of_nonneg_left (show 1 <= k by omega) (show 0 <= k by omega)
    omega
 ·apply Int.not_lt.1
  intro hh
  exact k2 t hh t1 ⟨t1, t2⟩
theorem squareRoot_run (h239 : S 239 = none) (h141 : S 141 = none) (h205 : S 205 = none) (h206 : S 206 = none) {H : Heap} {n : Int} (hl : H.n + 5 < lim) (hn : -1000000000 <= n /\ n <= 1000000000) :
  Cl (ctx.plus S) 239 [iv n] H fun r H' => (∃ k β, r = .tup [iv k, .bool β] /\ (0 <= k /\ k <= 1000000001) /\ n <= k * k /\ (∀ t, 0 <= t -> n <= t * t -> k <= t) /\ (β = true ↔ k * k = n)) /\ Kp H H' 1 := by
 refine cl_of h239 fn239 ?_
 refine (rootAbove_run S h141 h205 h206 hl hn).mono ?_
 rintro _ H1 ⟨⟨k, rfl, k0, k1, k2⟩, hK⟩
 have kb : k <= 1000000001 := k2 _ (by omega) (by omega)
 have hb2 := mul_bd (a := k) (b := k) (m := 1000000001) (n := 1000000001) (by omega) (by omega)
 refine ⟨⟨by omega, by omega⟩, ?_⟩
 refine ⟨fun h => ?_, fun h => ?_⟩
 ·exact ⟨⟨k, true, rfl, by omega, k1, k2, fun _ => h, fun _ => rfl⟩, hK⟩
 ·exact ⟨⟨k, false, rfl, by omega, k1, k2, fun h => (by cases h), fun hh => absurd hh h⟩, hK⟩
end Go.PI

open Go.Proofs
namespace Go.PI
open IM
set_option maxRecDepth 10000
set_option maxHeartbeats 4000000
theorem tdiv2_small {x m : Int} (h : -m <= x /\ x <= m) : -m <= x.tdiv 2 /\ x.tdiv 2 <= m := by
 rcases ilt_or x 0 with h1 | h1
 ·obtain ⟨y, rfl⟩ : ∃ y, x = -y := ⟨-x, by omega⟩
  rw [Int.neg_tdiv, Int.tdiv_eq_ediv_of_nonneg (by omega)]
  omega
 ·rw [Int.tdiv_eq_ediv_of_nonneg h1]
  omega
variable (S : FuncId -> Option (List AV -> Heap -> Option (AV × Heap)))
theorem hquad_run (h202 : S 202 = none) (h239 : S 239 = none) (h141 : S 141 = none) (h205 : S 205 = none) (h206 : S 206 = none) {H : Heap} {p : AV} {p0 p1 p2 p3 q b d : Int} (hl : H.n + 5 < lim) (hp : Sl H p [p0, p1, p2, p3, q]) (hc : Cf [p0, p1, p2, p3, q]) (k0 : p0 ≠ 0) (hb : b * d = p0) :
  Cl (ctx.plus S) 202 [p, iv b] H fun r H' => (∃ β : Bool, r = .bool β /\ (β = true ↔ ∃ a c e, Quad p0 p1 p2 p3 b a c e /\ c <= a)) /\ Kp H H' 1 := by
 refine cl_of h202 fn202 ?_
 have hT : (ctx.plus S).ty = tget := rfl
 have b0 := hc p0 (by simp)
 have b1 := hc p1 (by simp)
 have b2 := hc p2 (by simp)
 have b3 := hc p3 (by simp)
 have bb := factor_small hb k0 b0
 have bd := factor_small (b := d) (d := b) (by rw [Int.mul_comm]; exact hb) k0 b0
 have ed : p0.tdiv b = d := by rw [← hb]; exact Int.mul_tdiv_cancel_left d bb.2.2
 obtain ⟨bv, ov, hbv, hav⟩ := hp.addr (by simp)
 have hi : ∀ {ρ : Operand -> Option AV} {x i : Operand} (k : Nat), k < 5 -> ρ x = some p -> ρ i = some (iv k) -> pureE (ctx.plus S) ρ (.indexAddr 22 x i) = some (.ptr bv (ov + k)) := fun k hk h1 h2 => by
  rw [← hav]; exact idx_sl hT (n := (k : Int)) h1 h2 hp rfl (by simpa using hk)
 have hlo : ∀ (k : Nat) (x : Int), [p0, p1, p2, p3, q][k]? = some x -> loadE (ctx.plus S) 3 (.ptr bv (ov + k)) H = some (iv x) := fun k x h => by rw [← hav]; exact load_sl hT hp h
 have si : ∀ n : Int, (iv n).same (iv n) = true := fun n => by simp [AV.same, AV.sames]
 refine ⟨_, hi 0 (by omega) rfl rfl, ?_⟩
 refine ⟨_, hlo 0 p0 rfl, ?_⟩
 refine ⟨⟨bb.2.2, by rw [ed]; unfold In64; omega⟩, ?_⟩
 rw [ed]
 refine ⟨_, hi 3 (by omega) rfl rfl, ?_⟩
 refine ⟨_, hlo 3 p3 rfl, ?_⟩
 refine ⟨_, hi 2 (by omega) rfl rfl, ?_⟩
 refine ⟨_, hlo 2 p2 rfl, ?_⟩
 refine ⟨⟨by omega, by omega⟩, ?_⟩
 refine ⟨⟨by omega, by omega⟩, ?_⟩
 refine ⟨draw_of2 H 12 (by kernel_rfl) rfl ?_ ?_ ?_, ?_⟩
 ·exact ⟨trivial, trivial, ⟨_, _, _, rfl, hbv, hlo 3 p3 rfl, si _⟩, trivial, trivial, ⟨_, _, _, rfl, hbv, hlo 2 p2 rfl, si _⟩, trivial, trivial, trivial, trivial, trivial, trivial, trivial⟩
 ·repeat' (first | exact trivial | refine ⟨fun _ _ => rfl, ?_⟩)
 ·repeat' (first | exact trivial | refine ⟨Nat.le_refl _, ?_⟩)
 have e3 := mul_bd (a := p3) (b := p3) (m := 1000) (n := 1000) (by omega) (by omega)
 refine ⟨⟨by omega, by omega⟩, ?_⟩
 refine ⟨⟨by omega, by omega⟩, ?_⟩
 refine ⟨⟨by omega, by omega⟩, ?_⟩
 refine (squareRoot_run S h239 h141 h205 h206 (n := p3 * p3 - 4 * (p2 - b - d)) hl (by omega)).mono ?_
 rintro _ H1 ⟨⟨s, β, rfl, s0, s1, s2, hβ⟩, hK⟩
 have key := quad_iff (p0 := p0) (p1 := p1) (p2 := p2) (p3 := p3) (b := b) (d := d) (s := s) hb s0.1 s1 s2
 have key2 : (∃ a c e, Quad p0 p1 p2 p3 b a c e /\ c <= a) ↔ ∃ a c e, Quad p0 p1 p2 p3 b a c e /\ e = d /\ c <= a := by
  refine ⟨?_, ?_⟩
  ·rintro ⟨a, c, e, q, h⟩
   refine ⟨a, c, e, q, ?_, h⟩
   have := q.h0
   exact Int.eq_of_mul_eq_mul_left bb.2.2 (by omega)
  ·rintro ⟨a, c, e, q, _, h⟩
   exact ⟨a, c, e, q, h⟩
 have ha := tdiv2_small (x := p3 + s) (m := 2000000000) (by omega)
 have m1 := mul_bd (a := (p3 + s).tdiv 2) (b := d) (m := 2000000000) (n := 1000) ha (by omega)
 have m2 := mul_bd (a := b) (b := p3 - (p3 + s).tdiv 2) (m := 1000) (n := 3000000000) (by omega) (by omega)
 refine ⟨⟨by omega, by omega⟩, ?_⟩
 refine ⟨⟨by omega, by unfold In64; omega⟩, ?_⟩
 have hi1 : ∀ {ρ : Operand -> Option AV} {x i : Operand} (k : Nat), k < 5 -> ρ x = some p -> ρ i = some (iv k) -> pureE (ctx.plus S) ρ (.indexAddr 22 x i) = some (.ptr bv (ov + k)) := fun k hk h1 h2 => hi k hk h1 h2
 have hl1 : loadE (ctx.plus S) 3 (.ptr bv (ov + 1)) H1 = some (iv p1) := by rw [← hav]; exact load_sl hT (hp.kp hK) rfl
 cases β with
 | false =>
  exact ⟨⟨false, rfl, fun h => (by cases h), fun h => absurd (hβ.2 (key.2 (key2.1 h)).1) (fun h => by cases h)⟩, hK⟩
 | true =>
  have hs := hβ.1 rfl
  refine ⟨⟨by omega, by omega⟩, ?_⟩
  refine ⟨⟨by omega, by omega⟩, ?_⟩
  refine ⟨⟨by omega, by omega⟩, ?_⟩
  refine ⟨⟨by omega, by omega⟩, ?_⟩
  refine ⟨_, hi 1 (by omega) rfl rfl, ?_⟩
  refine ⟨_, hl1, ?_⟩
  refine ⟨fun h => ?_, fun h => ?_⟩
  ·exact ⟨⟨true, rfl, fun _ => key2.2 (key.1 ⟨hs, h⟩), fun _ => rfl⟩, hK⟩
  ·exact ⟨⟨false, rfl, fun h => (by cases h), fun hh => absurd (key.2 (key2.1 hh)).2 h⟩, hK⟩
end Go.PI

open Go.Proofs
namespace Go.PI
open IM
theorem fn200 : ctx.fn 200 = some c200 := by kernel_rfl
theorem fn238 : ctx.fn 238 = some c238 := by kernel_rfl
set_option maxRecDepth 10000
set_option maxHeartbeats 4000000
theorem covers {N d : Int} {Q : Int -> Prop} (hN : 1 <= N) (hd : N < d * d) (h1 : 1 <= d)
  (h : ∀ e, 1 <= e -> e < d -> e ∣ N -> ¬ Q e /\ ¬ Q (-e) /\ ¬ Q (N / e) /\ ¬ Q (-(N / e))) : ∀ e, e ∣ N -> ¬ Q e := by
 intro e he
 have pos : ∀ a, 1 <= a -> a ∣ N -> ¬ Q a /\ ¬ Q (-a) := fun a ha hda => by
  rcases ilt_or a d with hlt | hge
  ·have := h a ha hlt hda
   exact ⟨this.1, this.2.1⟩
  ·obtain ⟨c, hc⟩ := hda
   have c1 : 1 <= c := by
    rcases ilt_or c 1 with k | k
    ·exfalso
     have := Int.mul_nonneg (show 0 <= a by omega) (show 0 <= -c by omega)
     rw [Int.mul_neg] at this
     omega
    ·exact k
   have cd : c < d := by
    rcases ilt_or c d with k | k
    ·exact k
    ·exfalso
     have := Int.mul_le_mul hge k (show 0 <= d by omega) (by omega)
     omega
   have := h c c1 cd ⟨a, by rw [hc, Int.mul_comm]⟩
   have e : N / c = a := by rw [hc]; exact Int.mul_ediv_cancel a (by omega)
   rw [e] at this
   exact this.2.2
 have e0 : e ≠ 0 := fun k => by subst k; have := Int.zero_dvd.1 he; omega
 rcases ilt_or e 0 with k | k
 ·have := (pos (-e) (by omega) (Int.neg_dvd.2 he)).2
  rwa [Int.neg_neg] at this
 ·exact (pos e (by omega) he).1
variable (S : FuncId -> Option (List AV -> Heap -> Option (AV × Heap)))
theorem div_run (h238 : S 238 = none) {H0 : Heap} {l b : Nat} {n N : Int} (hN : (N = n ∨ N = -n) /\ 1 <= N /\ N <= 1000) (hb : H0.get b = .cells true 3 [iv n]) (hb0 : b < H0.n) (hH : H0.n < lim)
  (J : Nat -> Heap -> Prop) (R : Heap -> Prop) (Q : Int -> Prop) (hJ : ∀ c H, J c H -> H.get b = .cells true 3 [iv N])
  (hy : ∀ c d H, J c H -> d ∣ N -> c < 124 -> ∃ k v' H', yieldF (ev (ctx.plus S) k) l [iv d] H = some (v', H') /\ ((v' = .bool true /\ ¬ Q d /\ J (c + 1) H') ∨ (v' = .bool false /\ R H')))
  (hend : ∀ c H, c <= 124 -> J c H -> (∀ d, d ∣ N -> ¬ Q d) -> R H) (h : ∀ H1, Upd H0 b (.cells true 3 [iv N]) H1 -> J 0 H1) :
  Cl (ctx.plus S) 238 [.yld l, .ptr b 0] H0 fun _ H' => R H' := by
 refine cl_of h238 fn238 ?_
 have hT : (ctx.plus S).ty = tget := rfl
 refine ⟨_, load_var hT hb, ?_⟩
 refine ⟨_, load_var hT hb, ?_⟩
 refine ⟨⟨by omega, by omega⟩, ?_⟩
 obtain ⟨m, e, h1, h2, h3⟩ := max_of2 (C := ctx.plus S) (ρ := opd (.yld l :: .ptr b 0 :: undefA :: undefA :: iv n :: iv n :: iv (0 - n) :: List.replicate 40 undefA)) (x := .tmp 4) (y := .tmp 6) (ts := #[3, 3]) rfl rfl
 have em : m = N := by omega
 subst em
 refine ⟨_, e, ?_⟩
 refine ⟨_, store_var hT hb, ?_⟩
 have hU := upd_set (H := H0) (b := b) (x := .cells true 3 [iv m]) hb0 hH
 have hJ0 := h _ hU
 refine ⟨fun z s => ∃ (d : Int) (c : Nat) (H' : Heap) (j2 j4 j5 j6 j7 j8 j9 j10 j11 j12 j13 j14 j15 j16 j17 j18 j19 j20 j21 j22 j23 j24 j25 j26 j27 j28 j29 j30 j31 j32 j33 j34 j35 j36 j37 j38 j39 j40 j41 j42 j43 j44 j45 j46 : AV),
  s = ⟨[.yld l, .ptr b 0, j2, iv d, j4, j5, j6, j7, j8, j9, j10, j11, j12, j13, j14, j15, j16, j17, j18, j19, j20, j21, j22, j23, j24, j25, j26, j27, j28, j29, j30, j31, j32, j33, j34, j35, j36, j37, j38, j39, j40, j41, j42, j43, j44, j45, j46], H', []⟩ /\ (z : Int) = 100 - d /\ (1 <= d /\ d <= 32) /\ (c : Int) <= 4 * (d - 1) /\ J c H' /\ ∀ e, 1 <= e -> e < d -> e ∣ m -> ¬ Q e /\ ¬ Q (-e) /\ ¬ Q (m / e) /\ ¬ Q (-(m / e)), ⟨99, ?_⟩, ?_⟩
 ·exact ⟨1, 0, _, _, _, _, _, _, _, _, _, _, _, _, _, _, _, _, _, _, _, _, _, _, _, _, _, _, _, _, _, _, _, _, _, _, _, _, _, _, _, _, _, _, _, _, _, rfl, by omega, by omega, by omega, hJ0, fun e h1 h2 => by omega⟩
 ·rintro z s ⟨d, c, H', j2, j4, j5, j6, j7, j8, j9, j10, j11, j12, j13, j14, j15, j16, j17, j18, j19, j20, j21, j22, j23, j24, j25, j26, j27, j28, j29, j30, j31, j32, j33, j34, j35, j36, j37, j38, j39, j40, j41, j42, j43, j44, j45, j46, rfl, hz, hd, hc, hJc, hq⟩
  have hdd := mul_bd (a := d) (b := d) (m := 32) (n := 32) (by omega) (by omega)
  refine ⟨⟨by omega, by omega⟩, ?_⟩
  refine ⟨_, load_var hT (hJ _ _ hJc), ?_⟩
  refine ⟨fun hle => ?_, fun hgt => ?_⟩
  ·have hd31 : d <= 31 := by
    rcases ilt_or d 32 with k | k
    ·omega
    ·exfalso
     have : d = 32 := by omega
     subst this; omega
   refine ⟨_, load_var hT (hJ _ _ hJc), ?_⟩
   have hrem : m.tmod d = m % d := Int.tmod_eq_emod_of_nonneg (by omega)
   have hquo : m.tdiv d = m / d := Int.tdiv_eq_ediv_of_nonneg (by omega)
   have hquo2 : (0 - m).tdiv d = -(m / d) := by rw [Int.zero_sub, Int.neg_tdiv, hquo]
   have hnext : ∀ (c' : Nat) (H2 : Heap), (c' : Int) <= 4 * d -> J c' H2 -> (d ∣ m -> ¬ Q d /\ ¬ Q (-d) /\ ¬ Q (m / d) /\ ¬ Q (-(m / d))) -> ∀ e, 1 <= e -> e < d + 1 -> e ∣ m -> ¬ Q e /\ ¬ Q (-e) /\ ¬ Q (m / e) /\ ¬ Q (-(m / e)) := fun c' H2 _ _ hqd e h1 h2 h3 => by
    rcases ilt_or e d with k | k
    ·exact hq e h1 k h3
    ·have : e = d := by omega
     subst this; exact hqd h3
   refine ⟨by omega, ?_⟩
   rw [hrem]
   refine ⟨fun hne => ?_, fun heq => ?_⟩
   ·refine ⟨⟨by omega, by omega⟩, ?_⟩
    exact ⟨z - 1, by omega, d + 1, c, H', _, _, _, _, _, _, _, _, _, _, _, _, _, _, _, _, _, _, _, _, _, _, _, _, _, _, _, _, _, _, _, _, _, _, _, _, _, _, _, _, _, _, _, _, rfl, by omega, by omega, by omega, hJc, hnext c H' (by omega) hJc fun hdv => absurd (Int.emod_eq_zero_of_dvd hdv) hne⟩
   ·have hdv : d ∣ m := Int.dvd_of_emod_eq_zero heq
    have hq1 : m / d ∣ m := ⟨d, by rw [Int.ediv_mul_cancel hdv]⟩
    have hqb : 0 <= m / d /\ m / d <= 1000 := ⟨Int.ediv_nonneg (by omega) (by omega), Int.le_trans (Int.ediv_le_self d (by omega)) (by omega)⟩
    obtain ⟨k1, v1, G1, y1, z1⟩ := hy c d H' hJc hdv (by omega)
    refine ⟨k1, v1, G1, by simp only [effE, opd, opds]; exact y1, ?_⟩
    rcases z1 with ⟨rfl, q1, J1⟩ | ⟨rfl, hR⟩
    case inr => exact hR
    refine ⟨⟨by omega, by omega⟩, ?_⟩
    rw [Int.zero_sub]
    obtain ⟨k2, v2, G2, y2, z2⟩ := hy (c + 1) (-d) G1 J1 (Int.neg_dvd.2 hdv) (by omega)
    refine ⟨k2, v2, G2, by simp only [effE, opd, opds]; exact y2, ?_⟩
    rcases z2 with ⟨rfl, q2, J2⟩ | ⟨rfl, hR⟩
    case inr => exact hR
    refine ⟨_, load_var hT (hJ _ _ J2), ?_⟩
    refine ⟨⟨by omega, by rw [hquo]; unfold In64; omega⟩, ?_⟩
    rw [hquo]
    obtain ⟨k3, v3, G3, y3, z3⟩ := hy (c + 1 + 1) (m / d) G2 J2 hq1 (by omega)
    refine ⟨k3, v3, G3, by simp only [effE, opd, opds]; exact y3, ?_⟩
    rcases z3 with ⟨rfl, q3, J3⟩ | ⟨rfl, hR⟩
    case inr => exact hR
    refine ⟨_, load_var hT (hJ _ _ J3), ?_⟩
    refine ⟨⟨by omega, by omega⟩, ?_⟩
    refine ⟨⟨by omega, by rw [hquo2]; unfold In64; omega⟩, ?_⟩
    rw [hquo2]
    obtain ⟨k4, v4, G4, y4, z4⟩ := hy (c + 1 + 1 + 1) (-(m / d)) G3 J3 (Int.neg_dvd.2 hq1) (by omega)
    refine ⟨k4, v4, G4, by simp only [effE, opd, opds]; exact y4, ?_⟩
    rcases z4 with ⟨rfl, q4, J4⟩ | ⟨rfl, hR⟩
    case inr => exact hR
    refine ⟨⟨by omega, by omega⟩, ?_⟩
    exact ⟨z - 1, by omega, d + 1, c + 1 + 1 + 1 + 1, G4, _, _, _, _, _, _, _, _, _, _, _, _, _, _, _, _, _, _, _, _, _, _, _, _, _, _, _, _, _, _, _, _, _, _, _, _, _, _, _, _, _, _, _, _, rfl, by omega, by omega, by omega, J4, hnext (c + 1 + 1 + 1 + 1) G4 (by omega) J4 fun _ => ⟨q1, q2, q3, q4⟩⟩
  ·exact hend c H' (by omega) hJc (covers hN.2.1 hgt hd.1 hq)
end Go.PI

open Go.Proofs
namespace Go.PI
open IM
set_option maxRecDepth 10000
set_option maxHeartbeats 1000000
variable (S : FuncId -> Option (List AV -> Heap -> Option (AV × Heap)))
theorem divisors_run (h200 : S 200 = none) {H : Heap} {n : Int} (hn : H.n + 2 < lim) : Cl (ctx.plus S) 200 [iv n] H fun r H' => r = .fn 238 [] [.ptr H.n 0] /\ H' = H.push (.cells true 3 [iv n]) := by
 refine cl_of h200 fn200 ?_
 refine ⟨by omega, ?_⟩
 refine ⟨_, rfl, ?_⟩
 exact ⟨rfl, rfl⟩
theorem range_div (h238 : S 238 = none) {f : Operand} {p : Tmp} {assign body : Code} {T : List AV} {H1 : Heap} {D : List Nat} {Q : Ex -> St -> Prop} {b : Nat} {n N : Int}
  (hn : H1.n + 2 < lim) (hf : opd T f = some (.fn 238 [] [.ptr b 0])) (hN : (N = n ∨ N = -n) /\ 1 <= N /\ N <= 1000) (hb : H1.get b = .cells true 3 [iv n]) (hb0 : b < H1.n)
  (I : Nat -> Heap -> Prop) (P : Int -> Prop)
  (hI : ∀ c H, I c H -> H.get b = .cells true 3 [iv N] /\ H.n < lim /\ H1.n + 1 < H.n)
  (hfr : ∀ c H x H', I c H -> Upd H (H1.n + 1) x H' -> I c H')
  (h0 : ∀ H, H.n = H1.n + 2 -> (∀ A, A < H1.n -> A ≠ b -> H.get A = H1.get A) -> H.get b = .cells true 3 [iv N] -> H.get H1.n = .dfr -> I 0 H)
  (hstep : ∀ c d H L, I c H -> d ∣ N -> c < 124 -> H.get (H1.n + 1) = .loop L →
   vC (ctx.plus S) (some (H1.n + 1)) assign ⟨T.set p (iv d), H, []⟩ fun e1 s1 => e1 = .normal /\ s1.D = [] /\ s1.H = H /\ ∀ H' L', Upd H (H1.n + 1) (.loop L') H' →
    vC (ctx.plus S) (some (H1.n + 1)) body ⟨s1.T, H', []⟩ fun e2 s2 => s2.D = [] /\ s2.H.get (H1.n + 1) = .loop L' /\ (match e2 with
     | .normal => ¬ P d /\ I (c + 1) s2.H
     | .goto _ => False
     | e2 => s2.H.n < lim /\ H1.n + 1 < s2.H.n /\ ∀ H3, Upd s2.H (H1.n + 1) .dead H3 -> Q e2 ⟨T, H3, H1.n :: D⟩))
  (hend : ∀ c H H3, c <= 124 -> I c H -> (∀ d, d ∣ N -> ¬ P d) -> Upd H (H1.n + 1) .dead H3 -> Q .normal ⟨T, H3, H1.n :: D⟩) :
  ∃ n e s', rangeF (ctx.plus S) (ev (ctx.plus S) n) none f #[p] assign body ⟨T, H1, D⟩ = some (e, s') /\ Q e s' := by
 have hT : (ctx.plus S).ty = tget := rfl
 refine range_of (by omega) hf (by show (ctx.fn 238).isNone = false; rw [fn238]; rfl) ?_
 have hp1 := Heap.get_push (H := H1) (b := .dfr) (by omega)
 have hpn : (H1.push .dfr).n = H1.n + 1 := rfl
 have hp2 := Heap.get_push (H := H1.push .dfr) (b := .loop { state := .ready, pending := none, tmps := T, params := #[p], assign := assign, body := body, dfr := H1.n }) (by omega)
 have hpn2 : ((H1.push .dfr).push (.loop { state := .ready, pending := none, tmps := T, params := #[p], assign := assign, body := body, dfr := H1.n })).n = H1.n + 2 := rfl
 generalize hL0 : ({ state := .ready, pending := none, tmps := T, params := #[p], assign := assign, body := body, dfr := H1.n } : ALoop) = L0 at hp2 hpn2 ⊢
 generalize (H1.push .dfr).push (.loop L0) = H2 at hp2 hpn2 ⊢
 rw [hpn] at hp2
 refine (div_run S h238 (l := H1.n + 1) (b := b) (n := n) (N := N) hN (by rw [hp2, if_neg (by omega), hp1, if_neg (by omega)]; exact hb) (by omega) (by omega) (fun c H => I c H /\ H.get (H1.n + 1) = .loop L0)
  (fun H3 => ∃ lp, H3.get (H1.n + 1) = .loop lp /\ lp.state ≠ .busy /\ match lp.pending with
    | none => Q .normal ⟨T, H3.set (H1.n + 1) .dead, H1.n :: D⟩
    | some c => Runs (ctx.plus S) none c ⟨T, H3.set (H1.n + 1) .dead, H1.n :: D⟩ Q) P (fun c H h => (hI c H h.1).1) ?_ ?_ ?_).mono (fun _ _ h => h)
 ·rintro c d H ⟨hIk, hl⟩ hd hc
  obtain ⟨-, hHn, hHl⟩ := hI _ _ hIk
  refine yield_of (K := fun v' H' => (v' = .bool true /\ ¬ P d /\ I (c + 1) H' /\ H'.get (H1.n + 1) = .loop L0) ∨ (v' = .bool false /\ ∃ lp, H'.get (H1.n + 1) = .loop lp /\ lp.state ≠ .busy /\ match lp.pending with
    | none => Q .normal ⟨T, H'.set (H1.n + 1) .dead, H1.n :: D⟩
    | some c => Runs (ctx.plus S) none c ⟨T, H'.set (H1.n + 1) .dead, H1.n :: D⟩ Q)) hl (by subst hL0; rfl) (by subst hL0; rfl) ?_
  have hs := hstep c d H L0 hIk hd hc hl
  have h1 := vC_ok hs
  subst hL0
  refine h1.mono ?_
  rintro e1 ⟨T1, H1', D1⟩ ⟨rfl, rfl, rfl, h2⟩
  refine ⟨rfl, rfl, _, hl, rfl, ?_⟩
  have hU := upd_set (b := H1.n + 1) (x := .loop { state := .busy, pending := none, tmps := T, params := #[p], assign := assign, body := body, dfr := H1.n }) hHl hHn
  refine (vC_ok (h2 _ _ hU)).mono ?_
  rintro e2 ⟨T2, H2', D2⟩ ⟨rfl, h3, h4⟩
  refine ⟨rfl, _, h3, ?_⟩
  cases e2 with
  | normal =>
   obtain ⟨hnp, h4⟩ := h4
   obtain ⟨-, g1, g2⟩ := hI _ _ h4
   have hU2 := upd_set (b := H1.n + 1) (x := .loop { state := .ready, pending := none, tmps := T, params := #[p], assign := assign, body := body, dfr := H1.n }) g2 g1
   exact .inl ⟨rfl, hnp, hfr _ _ _ _ h4 hU2, hU2.at_⟩
  | goto g => exact h4.elim
  | exit i =>
   obtain ⟨g1, g2, g3⟩ := h4
   have hU2 := upd_set (b := H1.n + 1) (x := .loop { state := .done, pending := some (.exit i), tmps := T, params := #[p], assign := assign, body := body, dfr := H1.n }) g2 g1
   have hU3 := upd_set (b := H1.n + 1) (x := .dead) (by rw [hU2.n]; exact g2) (by rw [hU2.n]; exact g1)
   refine .inr ⟨rfl, _, hU2.at_, by simp, ?_⟩
   exact ⟨1, _, _, rfl, g3 _ (hU2.trans hU3)⟩
  | ret =>
   obtain ⟨g1, g2, g3⟩ := h4
   have hU2 := upd_set (b := H1.n + 1) (x := .loop { state := .done, pending := some .ret, tmps := T, params := #[p], assign := assign, body := body, dfr := H1.n }) g2 g1
   have hU3 := upd_set (b := H1.n + 1) (x := .dead) (by rw [hU2.n]; exact g2) (by rw [hU2.n]; exact g1)
   refine .inr ⟨rfl, _, hU2.at_, by simp, ?_⟩
   exact ⟨1, _, _, rfl, g3 _ (hU2.trans hU3)⟩
 ·rintro c H hc ⟨hI0, hl⟩ hall
  obtain ⟨-, g1, g2⟩ := hI _ _ hI0
  refine ⟨L0, hl, by subst hL0; simp, ?_⟩
  have hU3 := upd_set (b := H1.n + 1) (x := .dead) g2 g1
  subst hL0
  exact hend _ _ _ hc hI0 hall hU3
 ·intro H3 hU
  refine ⟨h0 _ (by rw [hU.n]; exact hpn2) (fun A hA hne => ?_) hU.at_ ?_, ?_⟩
  ·rw [hU.other A hne, hp2, if_neg (by omega), hp1, if_neg (by omega)]
  ·rw [hU.other _ (by omega), hp2, if_neg (by omega), hp1, if_pos rfl]
  ·rw [hU.other _ (by omega), hp2, if_pos rfl]
end Go.PI

open Go.Proofs
namespace Go.PI
open IM
theorem fn138 : ctx.fn 138 = some c138 := by kernel_rfl
set_option maxRecDepth 10000
set_option maxHeartbeats 4000000
section
variable {C : Ctx} (hT : C.ty = tget)
include hT
theorem ty4 : C.ty 4 = some t4 := by rw [hT]; rfl
theorem load_bv {H : Heap} {b : Nat} {rw : Bool} {ty : TypeId} {n : Bool} (h : H.get b = .cells rw ty [.bool n]) : loadE C 4 (.ptr b 0) H = some (.bool n) := by
 simp only [loadE, ty4 hT, h, partE, t4]; rfl
theorem store_bv {H : Heap} {b : Nat} {u : AV} {n : Bool} (h : H.get b = .cells true 4 [u]) : storeE C 4 (.ptr b 0) (.bool n) H = some (H.set b (.cells true 4 [.bool n])) := by
 simp only [storeE, ty4 hT, t4, h, AV.cells]; rfl
end
def PrD (ps : List Int) (d : Int) : Prop := pv ps d = 0 ∨ ∃ p0 p1 p2 p3, ps = [p0, p1, p2, p3, 1] /\ ∃ a c e, Quad p0 p1 p2 p3 d a c e /\ c <= a
theorem hasP_zero {cs : List Int} : HasP (0 :: cs) := ⟨0, cs, rfl, .inl rfl⟩
theorem hasP_iff {p0 : Int} {cs : List Int} (k0 : p0 ≠ 0) : HasP (p0 :: cs) ↔ ∃ d, d ∣ p0 /\ PrD (p0 :: cs) d := by
 constructor
 ·rintro ⟨q0, ds, e, h⟩
  cases e
  rcases h with h | ⟨b, hb, h | ⟨p1, p2, p3, rfl, h⟩⟩
  ·exact absurd h k0
  ·exact ⟨b, hb, .inl h⟩
  ·exact ⟨b, hb, .inr ⟨p0, p1, p2, p3, rfl, h⟩⟩
 ·rintro ⟨d, hd, h | ⟨q0, p1, p2, p3, e, h⟩⟩
  ·exact ⟨p0, cs, rfl, .inr ⟨d, hd, .inl h⟩⟩
  ·cases e
   exact ⟨p0, _, rfl, .inr ⟨d, hd, .inr ⟨p1, p2, p3, rfl, h⟩⟩⟩
variable (S : FuncId -> Option (List AV -> Heap -> Option (AV × Heap)))
theorem hasDiv_run (h138 : S 138 = none) (h200 : S 200 = none) (h238 : S 238 = none) (h201 : S 201 = none) (h182 : S 182 = none) (h228 : S 228 = none) (h202 : S 202 = none) (h239 : S 239 = none) (h141 : S 141 = none) (h205 : S 205 = none) (h206 : S 206 = none)
  {H : Heap} {p : AV} {p0 : Int} {cs : List Int} (hn : H.n + 3000 < lim) (hp : Sl H p (p0 :: cs)) (hc : Cf (p0 :: cs)) (hl : 1 <= cs.length /\ cs.length <= 4) (hm : cs.length = 4 -> ∃ p1 p2 p3, cs = [p1, p2, p3, 1]) :
  Cl (ctx.plus S) 138 [p] H fun r H' => (∃ β : Bool, r = .bool β /\ (β = true ↔ (cs.length ≠ 1 /\ HasP (p0 :: cs)))) /\ Kp H H' 2000 := by
 refine cl_of h138 fn138 ?_
 have hT : (ctx.plus S).ty = tget := rfl
 have b0 := hc p0 (by simp)
 have hp0 := Heap.get_push (H := H) (b := .cells true 22 p.cells) (by omega)
 have hpn0 : (H.push (.cells true 22 p.cells)).n = H.n + 1 := rfl
 have hp1 := Heap.get_push (H := H.push (.cells true 22 p.cells)) (b := .cells true 4 t4.zero.cells) (by omega)
 have hpn1 : ((H.push (.cells true 22 p.cells)).push (.cells true 4 t4.zero.cells)).n = H.n + 2 := rfl
 rw [hpn0] at hp1
 let H1 : Heap := (H.push (.cells true 22 p.cells)).push (.cells true 4 t4.zero.cells)
 have hn1 : H1.n = H.n + 2 := hpn1
 have g0 : H1.get H.n = .cells true 22 [p] := by rw [hp1, if_neg (by omega), hp0, if_pos rfl, hp.cells.1]
 have g1 : H1.get (H.n + 1) = .cells true 4 [.bool false] := by rw [hp1, if_pos rfl]; rfl
 have kk : ∀ A, A < H.n -> H1.get A = H.get A := fun A hA => by rw [hp1, if_neg (by omega), hp0, if_neg (by omega)]
 have hps1 : Sl H1 p (p0 :: cs) := hp.mono kk
 have hlen : ((p0 :: cs).length : Int) = cs.length + 1 := by simp
 have pz : (p0 :: cs)[0]? = some p0 := rfl
 have fin : ∀ (H2 H3 : Heap) (β : Bool), H2.n <= H.n + 2000 -> H.n + 1 < H2.n -> (∀ A, A < H.n -> H2.get A = H.get A) -> Upd H2 (H.n + 1) (.cells true 4 [.bool β]) H3 -> (β = true ↔ (cs.length ≠ 1 /\ HasP (p0 :: cs))) →
   ∃ v, loadE (ctx.plus S) 4 (.ptr (H.n + 1) 0) H3 = some v /\ ((∃ β : Bool, v = .bool β /\ (β = true ↔ (cs.length ≠ 1 /\ HasP (p0 :: cs)))) /\ Kp H H3 2000) := by
  intro H2 H3 β a1 a2 a3 hU hβ
  have := hU.n
  exact ⟨_, load_bv hT hU.at_, ⟨β, rfl, hβ⟩, by omega, by omega, fun A hA => by rw [hU.other A (by omega)]; exact a3 A hA⟩
 refine ⟨by omega, by show H.n + 1 < lim; omega, ?_⟩
 refine ⟨_, load_slv hT g0, ?_⟩
 refine ⟨_, len_sl hT (v := p) rfl hps1, ?_⟩
 refine ⟨fun h2 => ?_, fun h2 => ?_⟩
 ·refine ⟨_, store_bv hT g1, ?_⟩
  have hU := upd_set (H := H1) (b := H.n + 1) (x := .cells true 4 [.bool false]) (by omega) (by omega)
  exact fin H1 _ false (by omega) (by omega) kk hU ⟨fun h => (by cases h), fun h => absurd (by omega) h.1⟩
 ·refine ⟨_, load_slv hT g0, ?_⟩
  refine ⟨_, idx_sl hT (v := p) (n := 0) (k := 0) rfl rfl hps1 rfl (by simp), ?_⟩
  refine ⟨_, load_sl hT hps1 pz, ?_⟩
  refine ⟨fun hz => ?_, fun hz => ?_⟩
  ·refine ⟨_, store_bv hT g1, ?_⟩
   have hU := upd_set (H := H1) (b := H.n + 1) (x := .cells true 4 [.bool true]) (by omega) (by omega)
   exact fin H1 _ true (by omega) (by omega) kk hU ⟨fun _ => ⟨by omega, by rw [hz]; exact hasP_zero⟩, fun _ => rfl⟩
  ·refine ⟨_, load_slv hT g0, ?_⟩
   refine ⟨_, idx_sl hT (v := p) (n := 0) (k := 0) rfl rfl hps1 rfl (by simp), ?_⟩
   refine ⟨_, load_sl hT hps1 pz, ?_⟩
   refine (divisors_run S h200 (H := H1) (n := p0) (by omega)).mono ?_
   rintro _ _ ⟨rfl, rfl⟩
   have hp2 := Heap.get_push (H := H1) (b := .cells true 3 [iv p0]) (by omega)
   have hpn2 : (H1.push (.cells true 3 [iv p0])).n = H.n + 3 := by show H1.n + 1 = _; omega
   rw [hn1] at hp2
   let H2 : Heap := H1.push (.cells true 3 [iv p0])
   have hn2 : H2.n = H.n + 3 := hpn2
   obtain ⟨N, hN⟩ : ∃ N : Int, (N = p0 ∨ N = -p0) /\ 1 <= N /\ N <= 1000 := by
    rcases ilt_or p0 0 with h | h
    ·exact ⟨-p0, by omega⟩
    ·exact ⟨p0, by omega⟩
   have hdv : ∀ d : Int, d ∣ N ↔ d ∣ p0 := fun d => by
    rcases hN.1 with h | h
    ·rw [h]
    ·rw [h]; exact Int.dvd_neg
   have finR : ∀ (G : Heap) (β : Bool), (∀ A, A < H.n -> G.get A = H.get A) -> G.get (H.n + 1) = .cells true 4 [.bool β] -> G.get (H.n + 3) = .dfr -> H.n + 5 <= G.n -> G.n <= H.n + 2000 -> (β = true ↔ (cs.length ≠ 1 /\ HasP (p0 :: cs))) →
     ∃ G3, shutMarks [H2.n] G = some G3 /\ ∃ v, loadE (ctx.plus S) 4 (.ptr (H.n + 1) 0) G3 = some v /\ ((∃ β : Bool, v = .bool β /\ (β = true ↔ (cs.length ≠ 1 /\ HasP (p0 :: cs)))) /\ Kp H G3 2000) := by
    intro G β e1 e2 e3 e4 e5 hβ
    have hd : G.get H2.n = .dfr := by rw [hn2]; exact e3
    have hW := upd_set (H := G) (b := H2.n) (x := .dead) (by omega) (by omega)
    have := hW.n
    exact ⟨G.set H2.n .dead, by simp only [shutMarks, hd], _, load_bv hT (by rw [hW.other _ (by omega)]; exact e2), ⟨β, rfl, hβ⟩, by omega, by omega, fun A hA => by rw [hW.other A (by omega)]; exact e1 A hA⟩
   refine range_div S h238 (H1 := H2) (b := H.n + 2) (n := p0) (N := N) (Nat.lt_of_le_of_lt (Nat.le_of_eq (congrArg (· + 2) hpn2)) (by omega)) (by show some (AV.fn 238 [] [.ptr H1.n 0]) = _; rw [hn1]) hN (by rw [hp2, if_pos rfl]) (by omega)
    (fun c H' => (∀ A, A < H.n -> H'.get A = H.get A) /\ H'.get H.n = .cells true 22 [p] /\ H'.get (H.n + 1) = .cells true 4 [.bool false] /\ H'.get (H.n + 2) = .cells true 3 [iv N] /\ H'.get (H.n + 3) = .dfr /\ H.n + 5 <= H'.n /\ H'.n <= H.n + 5 + 11 * c /\ c <= 124) (PrD (p0 :: cs)) ?_ ?_ ?_ ?_ ?_
   ·rintro c H' ⟨a1, a2, a3, a4, a5, a6, a7, a8⟩
    exact ⟨a4, by omega, by omega⟩
   ·rintro c H' x H3 ⟨a1, a2, a3, a4, a5, a6, a7, a8⟩ hV
    have := hV.n
    exact ⟨fun A hA => by rw [hV.other A (by omega)]; exact a1 A hA, by rw [hV.other _ (by omega)]; exact a2, by rw [hV.other _ (by omega)]; exact a3, by rw [hV.other _ (by omega)]; exact a4, by rw [hV.other _ (by omega)]; exact a5, by omega, by omega, a8⟩
   ·intro H' e1 e2 e3 e4
    refine ⟨fun A hA => by rw [e2 A (by omega) (by omega), hp2, if_neg (by omega)]; exact kk A hA, ?_, ?_, e3, by rw [← hn2]; exact e4, by omega, by omega, by omega⟩
    ·rw [e2 _ (by omega) (by omega), hp2, if_neg (by omega)]; exact g0
    ·rw [e2 _ (by omega) (by omega), hp2, if_neg (by omega)]; exact g1
   ·rintro c d H' L ⟨a1, a2, a3, a4, a5, a6, a7, a8⟩ hd hc124 hL
    have hdp := (hdv d).1 hd
    have hds := dvd_small hdp hz b0
    refine ⟨rfl, rfl, rfl, ?_⟩
    intro H3 L' hV
    have hn3 := hV.n
    have d0 : ∀ A, A < H.n -> H3.get A = H.get A := fun A hA => by rw [hV.other A (by omega)]; exact a1 A hA
    have d2 : H3.get H.n = .cells true 22 [p] := by rw [hV.other _ (by omega)]; exact a2
    have d3 : H3.get (H.n + 1) = .cells true 4 [.bool false] := by rw [hV.other _ (by omega)]; exact a3
    have d4 : H3.get (H.n + 2) = .cells true 3 [iv N] := by rw [hV.other _ (by omega)]; exact a4
    have d5 : H3.get (H.n + 3) = .dfr := by rw [hV.other _ (by omega)]; exact a5
    have d6 : H3.get (H2.n + 1) = .loop L' := hV.at_
    -- a divisor is found
    have found : ∀ (G : Heap) (k : Nat), k <= 11 -> Kp H3 G k -> PrD (p0 :: cs) d -> ∃ G1, storeE (ctx.plus S) 4 (.ptr (H.n + 1) 0) (.bool true) G = some G1 /\ (G1.get (H2.n + 1) = .loop L' /\ G1.n < lim /\ H2.n + 1 < G1.n /\ ∀ G2, Upd G1 (H2.n + 1) .dead G2 →
      ∃ G3, shutMarks [H2.n] G2 = some G3 /\ ∃ v, loadE (ctx.plus S) 4 (.ptr (H.n + 1) 0) G3 = some v /\ ((∃ β : Bool, v = .bool β /\ (β = true ↔ (cs.length ≠ 1 /\ HasP (p0 :: cs)))) /\ Kp H G3 2000)) := by
     intro G k hk hK hP
     have k1 := hK.n
     have k2 := hK.m
     have hW := upd_set (H := G) (b := H.n + 1) (x := .cells true 4 [.bool true]) (by omega) (by omega)
     have hWn := hW.n
     refine ⟨_, store_bv hT (by rw [hK.get _ (by omega)]; exact d3), ?_, by omega, by omega, ?_⟩
     ·rw [hW.other _ (by omega), hK.get _ (by omega)]; exact d6
     ·intro G2 hX
      have hXn := hX.n
      refine finR G2 true (fun A hA => ?_) ?_ ?_ (by omega) (by omega) ⟨fun _ => ⟨by omega, (hasP_iff hz).2 ⟨d, hdp, hP⟩⟩, fun _ => rfl⟩
      ·rw [hX.other A (by omega), hW.other A (by omega), hK.get A (by omega)]; exact d0 A hA
      ·rw [hX.other _ (by omega)]; exact hW.at_
      ·rw [hX.other _ (by omega), hW.other _ (by omega), hK.get _ (by omega)]; exact d5
    -- it is none
    have none_ : ∀ (G : Heap) (k : Nat), k <= 11 -> Kp H3 G k -> G.get (H2.n + 1) = .loop L' /\ ((∀ A, A < H.n -> G.get A = H.get A) /\ G.get H.n = .cells true 22 [p] /\ G.get (H.n + 1) = .cells true 4 [.bool false] /\ G.get (H.n + 2) = .cells true 3 [iv N] /\ G.get (H.n + 3) = .dfr /\ H.n + 5 <= G.n /\ G.n <= H.n + 5 + 11 * (c + 1) /\ c + 1 <= 124) := by
     intro G k hk hK
     have k1 := hK.n
     have k2 := hK.m
     exact ⟨by rw [hK.get _ (by omega)]; exact d6, fun A hA => by rw [hK.get _ (by omega)]; exact d0 A hA, by rw [hK.get _ (by omega)]; exact d2, by rw [hK.get _ (by omega)]; exact d3, by rw [hK.get _ (by omega)]; exact d4, by rw [hK.get _ (by omega)]; exact d5, by omega, by omega, by omega⟩
    have hps3 : Sl H3 p (p0 :: cs) := hp.mono d0
    refine ⟨_, load_slv hT d2, ?_⟩
    refine (horner_run S h201 h182 h228 (H := H3) (x := d) (by omega) hps3 hc (by simp; omega) (by omega)).mono ?_
    rintro _ H4 ⟨rfl, hK⟩
    have hK1 := hK.n
    have hK2 := hK.m
    refine ⟨fun h0 => ?_, fun h0 => ?_⟩
    ·obtain ⟨G1, f1, f2, f3⟩ := found H4 10 (by omega) hK (.inl h0)
     exact ⟨G1, f1, rfl, f2, f3⟩
    ·refine ⟨_, load_slv hT (by rw [hK.get _ (by omega)]; exact d2), ?_⟩
     refine ⟨_, len_sl hT (v := p) rfl (hps3.kp hK), ?_⟩
     refine ⟨fun h5 => ?_, fun h5 => ?_⟩
     ·obtain ⟨p1, p2, p3, rfl⟩ := hm (by omega)
      obtain ⟨e, he⟩ := hdp
      refine ⟨_, load_slv hT (by rw [hK.get _ (by omega)]; exact d2), ?_⟩
      refine (hquad_run S h202 h239 h141 h205 h206 (H := H4) (b := d) (d := e) (by omega) (hps3.kp hK) hc hz he.symm).mono ?_
      rintro _ H5 ⟨⟨β, rfl, hβ⟩, hK'⟩
      have hKK := hK.trans hK' (c := 11) (by omega)
      cases β with
      | true =>
       obtain ⟨G1, f1, f2, f3⟩ := found H5 11 (by omega) hKK (.inr ⟨p0, p1, p2, p3, rfl, hβ.1 rfl⟩)
       exact ⟨G1, f1, rfl, f2, f3⟩
      | false =>
       obtain ⟨f1, f2⟩ := none_ H5 11 (by omega) hKK
       refine ⟨rfl, f1, ?_, f2⟩
       rintro (h | ⟨q0, q1, q2, q3, e, h⟩)
       ·exact h0 h
       ·cases e
        have := hβ.2 h
        cases this
     ·obtain ⟨f1, f2⟩ := none_ H4 10 (by omega) hK
      refine ⟨rfl, f1, ?_, f2⟩
      rintro (h | ⟨q0, q1, q2, q3, e, h⟩)
      ·exact h0 h
      ·cases e
       exact h5 rfl
   ·rintro c H' H3 hc124 ⟨a1, a2, a3, a4, a5, a6, a7, a8⟩ hall hV
    have hn3 := hV.n
    have hW := upd_set (H := H3) (b := H.n + 1) (x := .cells true 4 [.bool false]) (by omega) (by omega)
    have hWn := hW.n
    refine ⟨_, store_bv hT (by rw [hV.other _ (by omega)]; exact a3), ?_⟩
    refine finR (H3.set (H.n + 1) (.cells true 4 [.bool false])) false (fun A hA => ?_) hW.at_ ?_ (by omega) (by omega) ⟨fun h => (by cases h), fun h => ?_⟩
    ·rw [hW.other A (by omega), hV.other A (by omega)]; exact a1 A hA
    ·rw [hW.other _ (by omega), hV.other _ (by omega)]; exact a5
    ·obtain ⟨d, h1, h2⟩ := (hasP_iff hz).1 h.2
     exact absurd h2 (hall d ((hdv d).2 h1))
end Go.PI

open Go.Proofs
namespace Go.PI
open IM
theorem fn132 : ctx.fn 132 = some c132 := by kernel_rfl
set_option maxRecDepth 10000
set_option maxHeartbeats 8000000
theorem ex78 (T : List AV) (h : T.length = 78) : T = [T.getD 0 undefA, T.getD 1 undefA, T.getD 2 undefA, T.getD 3 undefA, T.getD 4 undefA, T.getD 5 undefA, T.getD 6 undefA, T.getD 7 undefA, T.getD 8 undefA, T.getD 9 undefA, T.getD 10 undefA, T.getD 11 undefA, T.getD 12 undefA, T.getD 13 undefA, T.getD 14 undefA, T.getD 15 undefA, T.getD 16 undefA, T.getD 17 undefA, T.getD 18 undefA, T.getD 19 undefA, T.getD 20 undefA, T.getD 21 undefA, T.getD 22 undefA, T.getD 23 undefA, T.getD 24 undefA, T.getD 25 undefA, T.getD 26 undefA, T.getD 27 undefA, T.getD 28 undefA, T.getD 29 undefA, T.getD 30 undefA, T.getD 31 undefA, T.getD 32 undefA, T.getD 33 undefA, T.getD 34 undefA, T.getD 35 undefA, T.getD 36 undefA, T.getD 37 undefA, T.getD 38 undefA, T.getD 39 undefA, T.getD 40 undefA, T.getD 41 undefA, T.getD 42 undefA, T.getD 43 undefA, T.getD 44 undefA, T.getD 45 undefA, T.getD 46 undefA, T.getD 47 undefA, T.getD 48 undefA, T.getD 49 undefA, T.getD 50 undefA, T.getD 51 undefA, T.getD 52 undefA, T.getD 53 undefA, T.getD 54 undefA, T.getD 55 undefA, T.getD 56 undefA, T.getD 57 undefA, T.getD 58 undefA, T.getD 59 undefA, T.getD 60 undefA, T.getD 61 undefA, T.getD 62 undefA, T.getD 63 undefA, T.getD 64 undefA, T.getD 65 undefA, T.getD 66 undefA, T.getD 67 undefA, T.getD 68 undefA, T.getD 69 undefA, T.getD 70 undefA, T.getD 71 undefA, T.getD 72 undefA, T.getD 73 undefA, T.getD 74 undefA, T.getD 75 undefA, T.getD 76 undefA, T.getD 77 undefA] := by
 have := expand T
 rw [h] at this
 exact this
def Cd (p0 p1 p2 p3 b a : Int) : Prop := b * (p2 - b - a * (p3 - a)) = p0 /\ a * (p2 - b - a * (p3 - a)) + b * (p3 - a) = p1
variable (S : FuncId -> Option (List AV -> Heap -> Option (AV × Heap)))
theorem redu_run (h132 : S 132 = none) (h195 : S 195 = none) {H : Heap} {p : AV} {p0 : Int} {cs : List Int} (hp : Sl H p (p0 :: cs)) (hc : Cf (p0 :: cs)) (hl : 1 <= cs.length /\ cs.length <= 4) (hm : cs.length = 4 -> ∃ p1 p2 p3, cs = [p1, p2, p3, 1]) :
  Cl (ctx.plus S) 132 [p] H fun r H' => (∃ β : Bool, r = .bool β /\ (β = true ↔ (cs.length ≠ 1 /\ HasR (p0 :: cs)))) /\ H = H' := by
 refine cl_of h132 fn132 ?_
 have hT : (ctx.plus S).ty = tget := rfl
 have b0 := hc p0 (by simp)
 have hlen : ((p0 :: cs).length : Int) = cs.length + 1 := by simp
 obtain ⟨n, hn⟩ : ∃ n : Int, n = cs.length := ⟨_, rfl⟩
 have hn1 : ((p0 :: cs).length : Int) - 1 = n := by omega
 refine ⟨_, len_sl hT (v := p) rfl hp, ?_⟩
 refine ⟨⟨by omega, by omega⟩, ?_⟩
 rw [hn1]
 refine ⟨fun h1 => ?_, fun h1 => ?_⟩
 ·exact ⟨⟨false, rfl, fun h => (by cases h), fun h => absurd (by omega) h.1⟩, rfl⟩
 refine ⟨fun m s => ∃ (x : Int) (T : List AV), s = ⟨T, H, []⟩ /\ T.length = 78 /\ T.getD 0 undefA = p /\ T.getD 3 undefA = iv n /\ T.getD 4 undefA = iv x /\ (m : Int) = 1002 - x /\ (-1001 <= x /\ x <= 1002) /\ ∀ y, -1001 <= y -> y < x -> pv (p0 :: cs) y ≠ 0, ⟨2003, ?_⟩, ?_⟩
 ·exact ⟨-1001, _, rfl, rfl, rfl, rfl, rfl, by omega, by omega, fun y h1 h2 => by omega⟩
 rintro m s ⟨x, T, rfl, hTl, h0t, h3t, h4t, hmm, hx, hy⟩
 obtain ⟨J, rfl⟩ : ∃ J : Nat -> AV, T = [p, J 1, J 2, iv n, iv x, J 5, J 6, J 7, J 8, J 9, J 10, J 11, J 12, J 13, J 14, J 15, J 16, J 17, J 18, J 19, J 20, J 21, J 22, J 23, J 24, J 25, J 26, J 27, J 28, J 29, J 30, J 31, J 32, J 33, J 34, J 35, J 36, J 37, J 38, J 39, J 40, J 41, J 42, J 43, J 44, J 45, J 46, J 47, J 48, J 49, J 50, J 51, J 52, J 53, J 54, J 55, J 56, J 57, J 58, J 59, J 60, J 61, J 62, J 63, J 64, J 65, J 66, J 67, J 68, J 69, J 70, J 71, J 72, J 73, J 74, J 75, J 76, J 77] := ⟨fun i => T.getD i undefA, (ex78 T hTl).trans (by rw [h0t, h3t, h4t])⟩
 clear hTl h0t h3t h4t
 refine ⟨fun hle => ?_, fun hgt => ?_⟩
 ·refine (rvalue_run S h195 (x := x) hp hc (by simp; omega) (by omega)).mono ?_
  rintro _ _ ⟨rfl, rfl⟩
  refine ⟨fun hz => ?_, fun hz => ?_⟩
  ·exact ⟨⟨true, rfl, fun _ => ⟨by omega, .inl ⟨x, by omega, hz⟩⟩, fun _ => rfl⟩, rfl⟩
  ·refine ⟨⟨by omega, by omega⟩, ?_⟩
   refine ⟨m - 1, by omega, x + 1, _, rfl, rfl, rfl, rfl, rfl, by omega, by omega, fun y h1 h2 => ?_⟩
   by_cases e : y = x
   ·rw [e]; exact hz
   ·exact hy y h1 (by omega)
 have noroot : ∀ y, -1001 <= y /\ y <= 1001 -> pv (p0 :: cs) y ≠ 0 := fun y h => hy y h.1 (by omega)
 clear hy hx hmm hgt
 by_cases h4 : cs.length = 4
 ·obtain ⟨p1, p2, p3, rfl⟩ := hm h4
  have b1 := hc p1 (by simp)
  have b2 := hc p2 (by simp)
  have b3 := hc p3 (by simp)
  have fin : (∀ b', -1000 <= b' -> b' <= 1000 -> b' ≠ 0 -> b' ∣ p0 -> ∀ a, -2002 <= a -> a <= 2002 -> ¬ Cd p0 p1 p2 p3 b' a) -> ((∃ β : Bool, AV.bool false = .bool β /\ (β = true ↔ ([p1, p2, p3, (1:Int)].length ≠ 1 /\ HasR [p0, p1, p2, p3, 1]))) /\ H = H) := by
   intro hno
   refine ⟨⟨false, rfl, fun h => (by cases h), ?_⟩, rfl⟩
   rintro ⟨-, ⟨x, h1, h2⟩ | ⟨q0, q1, q2, q3, e, b, a, h1, h2, h3, h4, h5⟩⟩
   ·exact absurd h2 (noroot x h1)
   ·cases e
    exact absurd ⟨h4, h5⟩ (hno b h1.1 h1.2 h2.1 h2.2 a h3.1 h3.2)
  refine ⟨fun m s => ∃ (b : Int) (T : List AV), s = ⟨T, H, []⟩ /\ T.length = 78 /\ T.getD 0 undefA = p /\ T.getD 3 undefA = iv n /\ T.getD 5 undefA = iv b /\ (m : Int) = 1001 - b /\ (-1000 <= b /\ b <= 1001) /\ ∀ b', -1000 <= b' -> b' < b -> b' ≠ 0 -> b' ∣ p0 -> ∀ a, -2002 <= a -> a <= 2002 -> ¬ Cd p0 p1 p2 p3 b' a, ⟨2001, ?_⟩, ?_⟩
  ·exact ⟨-1000, _, rfl, rfl, rfl, rfl, rfl, by omega, by omega, fun b' h1 h2 => by omega⟩
  rintro m s ⟨b, T, rfl, hTl, h0t, h3t, h5t, hmm, hb, hno⟩
  obtain ⟨J, rfl⟩ : ∃ J : Nat -> AV, T = [p, J 1, J 2, iv n, J 4, iv b, J 6, J 7, J 8, J 9, J 10, J 11, J 12, J 13, J 14, J 15, J 16, J 17, J 18, J 19, J 20, J 21, J 22, J 23, J 24, J 25, J 26, J 27, J 28, J 29, J 30, J 31, J 32, J 33, J 34, J 35, J 36, J 37, J 38, J 39, J 40, J 41, J 42, J 43, J 44, J 45, J 46, J 47, J 48, J 49, J 50, J 51, J 52, J 53, J 54, J 55, J 56, J 57, J 58, J 59, J 60, J 61, J 62, J 63, J 64, J 65, J 66, J 67, J 68, J 69, J 70, J 71, J 72, J 73, J 74, J 75, J 76, J 77] := ⟨fun i => T.getD i undefA, (ex78 T hTl).trans (by rw [h0t, h3t, h5t])⟩
  clear hTl h0t h3t h5t
  have next : (b ≠ 0 -> b ∣ p0 -> ∀ a, -2002 <= a -> a <= 2002 -> ¬ Cd p0 p1 p2 p3 b a) -> ∀ b', -1000 <= b' -> b' < b + 1 -> b' ≠ 0 -> b' ∣ p0 -> ∀ a, -2002 <= a -> a <= 2002 -> ¬ Cd p0 p1 p2 p3 b' a := by
   intro h b' h1 h2
   by_cases e : b' = b
   ·rw [e]; exact h
   ·exact hno b' h1 (by omega)
  refine ⟨fun hle => ?_, fun hgt => ?_⟩
  ·refine ⟨fun hn4 => ?_, fun hn4 => ?_⟩
   ·refine ⟨fun hb0 => ?_, fun hb0 => ?_⟩
    ·refine ⟨⟨by omega, by omega⟩, ?_⟩
     exact ⟨m - 1, by omega, b + 1, _, rfl, rfl, rfl, rfl, rfl, by omega, by omega, next fun h => absurd hb0 h⟩
    ·refine ⟨_, idx_sl hT (v := p) (n := 0) (k := 0) rfl rfl hp rfl (by simp), ?_⟩
     refine ⟨_, load_sl hT hp (x := p0) rfl, ?_⟩
     refine ⟨hb0, ?_⟩
     refine ⟨fun hr => ?_, fun hr => ?_⟩
     ·refine ⟨⟨by omega, by omega⟩, ?_⟩
      exact ⟨m - 1, by omega, b + 1, _, rfl, rfl, rfl, rfl, rfl, by omega, by omega, next fun _ h => absurd (Int.tmod_eq_zero_of_dvd h) hr⟩
     ·have hbd : b ∣ p0 := Int.dvd_of_tmod_eq_zero hr
      refine ⟨fun k s => ∃ (a : Int) (T : List AV), s = ⟨T, H, []⟩ /\ T.length = 78 /\ T.getD 0 undefA = p /\ T.getD 3 undefA = iv n /\ T.getD 5 undefA = iv b /\ T.getD 6 undefA = iv a /\ (k : Int) = 2003 - a /\ (-2002 <= a /\ a <= 2003) /\ ∀ a', -2002 <= a' -> a' < a -> ¬ Cd p0 p1 p2 p3 b a', ⟨4005, ?_⟩, ?_⟩
      ·exact ⟨-2002, _, rfl, rfl, rfl, rfl, rfl, rfl, by omega, by omega, fun a' h1 h2 => by omega⟩
      rintro k s ⟨a, T, rfl, hTl, h0t, h3t, h5t, h6t, hk, ha, hna⟩
      obtain ⟨J, rfl⟩ : ∃ J : Nat -> AV, T = [p, J 1, J 2, iv n, J 4, iv b, iv a, J 7, J 8, J 9, J 10, J 11, J 12, J 13, J 14, J 15, J 16, J 17, J 18, J 19, J 20, J 21, J 22, J 23, J 24, J 25, J 26, J 27, J 28, J 29, J 30, J 31, J 32, J 33, J 34, J 35, J 36, J 37, J 38, J 39, J 40, J 41, J 42, J 43, J 44, J 45, J 46, J 47, J 48, J 49, J 50, J 51, J 52, J 53, J 54, J 55, J 56, J 57, J 58, J 59, J 60, J 61, J 62, J 63, J 64, J 65, J 66, J 67, J 68, J 69, J 70, J 71, J 72, J 73, J 74, J 75, J 76, J 77] := ⟨fun i => T.getD i undefA, (ex78 T hTl).trans (by rw [h0t, h3t, h5t, h6t])⟩
      clear hTl h0t h3t h5t h6t
      refine ⟨fun hale => ?_, fun hagt => ?_⟩
      ·have m1 := mul_bd (a := a) (b := p3 - a) (m := 2002) (n := 3002) (by omega) (by omega)
       have m2 := mul_bd (a := b) (b := p2 - b - a * (p3 - a)) (m := 1000) (n := 7000000) (by omega) (by omega)
       have m3 := mul_bd (a := a) (b := p2 - b - a * (p3 - a)) (m := 2002) (n := 7000000) (by omega) (by omega)
       have m4 := mul_bd (a := b) (b := p3 - a) (m := 1000) (n := 3002) (by omega) (by omega)
       have nexta : ¬ Cd p0 p1 p2 p3 b a -> ∀ a', -2002 <= a' -> a' < a + 1 -> ¬ Cd p0 p1 p2 p3 b a' := by
        intro h a' h1 h2
        by_cases e : a' = a
        ·rw [e]; exact h
        ·exact hna a' h1 (by omega)
       refine ⟨_, idx_sl hT (v := p) (n := 3) (k := 3) rfl rfl hp rfl (by simp), ?_⟩
       refine ⟨_, load_sl hT hp (x := p3) rfl, ?_⟩
       refine ⟨⟨by omega, by omega⟩, ?_⟩
       refine ⟨_, idx_sl hT (v := p) (n := 2) (k := 2) rfl rfl hp rfl (by simp), ?_⟩
       refine ⟨_, load_sl hT hp (x := p2) rfl, ?_⟩
       refine ⟨⟨by omega, by omega⟩, ?_⟩
       refine ⟨⟨by omega, by omega⟩, ?_⟩
       refine ⟨⟨by omega, by omega⟩, ?_⟩
       refine ⟨⟨by omega, by omega⟩, ?_⟩
       refine ⟨_, idx_sl hT (v := p) (n := 0) (k := 0) rfl rfl hp rfl (by simp), ?_⟩
       refine ⟨_, load_sl hT hp (x := p0) rfl, ?_⟩
       refine ⟨fun he => ?_, fun he => ?_⟩
       ·refine ⟨⟨by omega, by omega⟩, ?_⟩
        refine ⟨⟨by omega, by omega⟩, ?_⟩
        refine ⟨⟨by omega, by omega⟩, ?_⟩
        refine ⟨_, idx_sl hT (v := p) (n := 1) (k := 1) rfl rfl hp rfl (by simp), ?_⟩
        refine ⟨_, load_sl hT hp (x := p1) rfl, ?_⟩
        refine ⟨fun hf => ?_, fun hf => ?_⟩
        ·exact ⟨⟨true, rfl, fun _ => ⟨by simp, .inr ⟨p0, p1, p2, p3, rfl, b, a, ⟨hb.1, hle⟩, ⟨hb0, hbd⟩, ⟨ha.1, hale⟩, he, hf⟩⟩, fun _ => rfl⟩, rfl⟩
        ·refine ⟨⟨by omega, by omega⟩, ?_⟩
         exact ⟨k - 1, by omega, a + 1, _, rfl, rfl, rfl, rfl, rfl, rfl, by omega, by omega, nexta fun h => hf h.2⟩
       ·refine ⟨⟨by omega, by omega⟩, ?_⟩
        exact ⟨k - 1, by omega, a + 1, _, rfl, rfl, rfl, rfl, rfl, rfl, by omega, by omega, nexta fun h => he h.1⟩
      ·refine ⟨⟨by omega, by omega⟩, ?_⟩
       exact ⟨m - 1, by omega, b + 1, _, rfl, rfl, rfl, rfl, rfl, by omega, by omega, next fun _ _ a' h1 h2 => hna a' h1 (by omega)⟩
   ·exact absurd (by rw [hn, h4]; rfl) hn4
  ·exact fin fun b' h1 h2 => hno b' h1 (by omega)
 ·have fin : ((∃ β : Bool, AV.bool false = .bool β /\ (β = true ↔ (cs.length ≠ 1 /\ HasR (p0 :: cs)))) /\ H = H) := by
   refine ⟨⟨false, rfl, fun h => (by cases h), ?_⟩, rfl⟩
   rintro ⟨-, ⟨x, h1, h2⟩ | ⟨q0, q1, q2, q3, e, -⟩⟩
   ·exact absurd h2 (noroot x h1)
   ·cases e
    exact absurd rfl h4
  refine ⟨fun m s => ∃ (b : Int) (T : List AV), s = ⟨T, H, []⟩ /\ T.length = 78 /\ T.getD 0 undefA = p /\ T.getD 3 undefA = iv n /\ T.getD 5 undefA = iv b /\ b = -1000, ⟨0, ?_⟩, ?_⟩
  ·exact ⟨-1000, _, rfl, rfl, rfl, rfl, rfl, rfl⟩
  rintro m s ⟨b, T, rfl, hTl, h0t, h3t, h5t, hb⟩
  obtain ⟨J, rfl⟩ : ∃ J : Nat -> AV, T = [p, J 1, J 2, iv n, J 4, iv b, J 6, J 7, J 8, J 9, J 10, J 11, J 12, J 13, J 14, J 15, J 16, J 17, J 18, J 19, J 20, J 21, J 22, J 23, J 24, J 25, J 26, J 27, J 28, J 29, J 30, J 31, J 32, J 33, J 34, J 35, J 36, J 37, J 38, J 39, J 40, J 41, J 42, J 43, J 44, J 45, J 46, J 47, J 48, J 49, J 50, J 51, J 52, J 53, J 54, J 55, J 56, J 57, J 58, J 59, J 60, J 61, J 62, J 63, J 64, J 65, J 66, J 67, J 68, J 69, J 70, J 71, J 72, J 73, J 74, J 75, J 76, J 77] := ⟨fun i => T.getD i undefA, (ex78 T hTl).trans (by rw [h0t, h3t, h5t])⟩
  clear hTl h0t h3t h5t
  refine ⟨fun hle => ?_, fun hgt => absurd hgt (by omega)⟩
  refine ⟨fun hn4 => absurd hn4 (by omega), fun hn4 => ?_⟩
  exact fin
end Go.PI

