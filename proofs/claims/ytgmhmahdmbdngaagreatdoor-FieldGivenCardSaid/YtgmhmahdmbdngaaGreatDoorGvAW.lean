/- Own work of the verifier: PiHquad PiDivs PiRgd PiHasd PiSturm PvInt. -/
import Derived.Test.YtgmhmahdmbdngaaGreatDoorGvAV
import Derived.Test.YtgmhmahdmbdngaaGreatDoorGvAN
set_option linter.all false
set_option linter.deprecated false
open Go.Proofs
namespace Go.PI
open IM
set_option maxRecDepth 10000
set_option maxHeartbeats 4000000
theorem tdiv2_small {x m : Int} (h : -m <= x /\ x <= m) : -m <= x.tdiv 2 /\ x.tdiv 2 <= m := by
 rcases ilt_or x 0 with h1 | h1
 ·obtain ⟨y, rfl⟩ : ∃ y, x = -y := ⟨-x, by omega⟩
  rw [Int.neg_tdiv, Int.tdiv_eq_ediv_of_nonneg (by omega)]
  omega
 ·rw [Int.tdiv_eq_ediv_of_nonneg h1]
  omega
variable (S : FuncId -> Option (List AV -> Heap -> Option (AV × Heap)))
theorem hquad_run (h202 : S 202 = none) (h239 : S 239 = none) (h141 : S 141 = none) (h205 : S 205 = none) (h206 : S 206 = none) {H : Heap} {p : AV} {p0 p1 p2 p3 q b d : Int} (hl : H.n + 5 < lim) (hp : Sl H p [p0, p1, p2, p3, q]) (hc : Cf [p0, p1, p2, p3, q]) (k0 : p0 ≠ 0) (hb : b * d = p0) :
  Cl (ctx.plus S) 202 [p, iv b] H fun r H' => (∃ β : Bool, r = .bool β /\ (β = true ↔ ∃ a c e, Quad p0 p1 p2 p3 b a c e /\ c <= a)) /\ Kp H H' 1 := by
 refine cl_of h202 fn202 ?_
 have hT : (ctx.plus S).ty = tget := rfl
 have b0 := hc p0 (by simp)
 have b1 := hc p1 (by simp)
 have b2 := hc p2 (by simp)
 have b3 := hc p3 (by simp)
 have bb := factor_small hb k0 b0
 have bd := factor_small (b := d) (d := b) (by rw [Int.mul_comm]; exact hb) k0 b0
 have ed : p0.tdiv b = d := by rw [← hb]; exact Int.mul_tdiv_cancel_left d bb.2.2
 obtain ⟨bv, ov, hbv, hav⟩ := hp.addr (by simp)
 have hi : ∀ {ρ : Operand -> Option AV} {x i : Operand} (k : Nat), k < 5 -> ρ x = some p -> ρ i = some (iv k) -> pureE (ctx.plus S) ρ (.indexAddr 22 x i) = some (.ptr bv (ov + k)) := fun k hk h1 h2 => by
  rw [← hav]; exact idx_sl hT (n := (k : Int)) h1 h2 hp rfl (by simpa using hk)
 have hlo : ∀ (k : Nat) (x : Int), [p0, p1, p2, p3, q][k]? = some x -> loadE (ctx.plus S) 3 (.ptr bv (ov + k)) H = some (iv x) := fun k x h => by rw [← hav]; exact load_sl hT hp h
 have si : ∀ n : Int, (iv n).same (iv n) = true := fun n => by simp [AV.same, AV.sames]
 refine ⟨_, hi 0 (by omega) rfl rfl, ?_⟩
 refine ⟨_, hlo 0 p0 rfl, ?_⟩
 refine ⟨⟨bb.2.2, by rw [ed]; unfold In64; omega⟩, ?_⟩
 rw [ed]
 refine ⟨_, hi 3 (by omega) rfl rfl, ?_⟩
 refine ⟨_, hlo 3 p3 rfl, ?_⟩
 refine ⟨_, hi 2 (by omega) rfl rfl, ?_⟩
 refine ⟨_, hlo 2 p2 rfl, ?_⟩
 refine ⟨⟨by omega, by omega⟩, ?_⟩
 refine ⟨⟨by omega, by omega⟩, ?_⟩
 refine ⟨draw_of2 H 12 (by kernel_rfl) rfl ?_ ?_ ?_, ?_⟩
 ·exact ⟨trivial, trivial, ⟨_, _, _, rfl, hbv, hlo 3 p3 rfl, si _⟩, trivial, trivial, ⟨_, _, _, rfl, hbv, hlo 2 p2 rfl, si _⟩, trivial, trivial, trivial, trivial, trivial, trivial, trivial⟩
 ·repeat' (first | exact trivial | refine ⟨fun _ _ => rfl, ?_⟩)
 ·repeat' (first | exact trivial | refine ⟨Nat.le_refl _, ?_⟩)
 have e3 := mul_bd (a := p3) (b := p3) (m := 1000) (n := 1000) (by omega) (by omega)
 refine ⟨⟨by omega, by omega⟩, ?_⟩
 refine ⟨⟨by omega, by omega⟩, ?_⟩
 refine ⟨⟨by omega, by omega⟩, ?_⟩
 refine (squareRoot_run S h239 h141 h205 h206 (n := p3 * p3 - 4 * (p2 - b - d)) hl (by omega)).mono ?_
 rintro _ H1 ⟨⟨s, β, rfl, s0, s1, s2, hβ⟩, hK⟩
 have key := quad_iff (p0 := p0) (p1 := p1) (p2 := p2) (p3 := p3) (b := b) (d := d) (s := s) hb s0.1 s1 s2
 have key2 : (∃ a c e, Quad p0 p1 p2 p3 b a c e /\ c <= a) ↔ ∃ a c e, Quad p0 p1 p2 p3 b a c e /\ e = d /\ c <= a := by
  refine ⟨?_, ?_⟩
  ·rintro ⟨a, c, e, q, h⟩
   refine ⟨a, c, e, q, ?_, h⟩
   have := q.h0
   exact Int.eq_of_mul_eq_mul_left bb.2.2 (by omega)
  ·rintro ⟨a, c, e, q, _, h⟩
   exact ⟨a, c, e, q, h⟩
 have ha := tdiv2_small (x := p3 + s) (m := 2000000000) (by omega)
 have m1 := mul_bd (a := (p3 + s).tdiv 2) (b := d) (m := 2000000000) (n := 1000) ha (by omega)
 have m2 := mul_bd (a := b) (b := p3 - (p3 + s).tdiv 2) (m := 1000) (n := 3000000000) (by omega) (by omega)
 refine ⟨⟨by omega, by omega⟩, ?_⟩
 refine ⟨⟨by omega, by unfold In64; omega⟩, ?_⟩
 have hi1 : ∀ {ρ : Operand -> Option AV} {x i : Operand} (k : Nat), k < 5 -> ρ x = some p -> ρ i = some (iv k) -> pureE (ctx.plus S) ρ (.indexAddr 22 x i) = some (.ptr bv (ov + k)) := fun k hk h1 h2 => hi k hk h1 h2
 have hl1 : loadE (ctx.plus S) 3 (.ptr bv (ov + 1)) H1 = some (iv p1) := by rw [← hav]; exact load_sl hT (hp.kp hK) rfl
 cases β with
 | false =>
  exact ⟨⟨false, rfl, fun h => (by cases h), fun h => absurd (hβ.2 (key.2 (key2.1 h)).1) (fun h => by cases h)⟩, hK⟩
 | true =>
  have hs := hβ.1 rfl
  refine ⟨⟨by omega, by omega⟩, ?_⟩
  refine ⟨⟨by omega, by omega⟩, ?_⟩
  refine ⟨⟨by omega, by omega⟩, ?_⟩
  refine ⟨⟨by omega, by omega⟩, ?_⟩
  refine ⟨_, hi 1 (by omega) rfl rfl, ?_⟩
  refine ⟨_, hl1, ?_⟩
  refine ⟨fun h => ?_, fun h => ?_⟩
  ·exact ⟨⟨true, rfl, fun _ => key2.2 (key.1 ⟨hs, h⟩), fun _ => rfl⟩, hK⟩
  ·exact ⟨⟨false, rfl, fun h => (by cases h), fun hh => absurd (key.2 (key2.1 hh)).2 h⟩, hK⟩
end Go.PI

open Go.Proofs
namespace Go.PI
open IM
theorem fn200 : ctx.fn 200 = some c200 := by kernel_rfl
theorem fn238 : ctx.fn 238 = some c238 := by kernel_rfl
set_option maxRecDepth 10000
set_option maxHeartbeats 4000000
theorem covers {N d : Int} {Q : Int -> Prop} (hN : 1 <= N) (hd : N < d * d) (h1 : 1 <= d)
  (h : ∀ e, 1 <= e -> e < d -> e ∣ N -> ¬ Q e /\ ¬ Q (-e) /\ ¬ Q (N / e) /\ ¬ Q (-(N / e))) : ∀ e, e ∣ N -> ¬ Q e := by
 intro e he
 have pos : ∀ a, 1 <= a -> a ∣ N -> ¬ Q a /\ ¬ Q (-a) := fun a ha hda => by
  rcases ilt_or a d with hlt | hge
  ·have := h a ha hlt hda
   exact ⟨this.1, this.2.1⟩
  ·obtain ⟨c, hc⟩ := hda
   have c1 : 1 <= c := by
    rcases ilt_or c 1 with k | k
    ·exfalso
     have := Int.mul_nonneg (show 0 <= a by omega) (show 0 <= -c by omega)
     rw [Int.mul_neg] at this
     omega
    ·exact k
   have cd : c < d := by
    rcases ilt_or c d with k | k
    ·exact k
    ·exfalso
     have := Int.mul_le_mul hge k (show 0 <= d by omega) (by omega)
     omega
   have := h c c1 cd ⟨a, by rw [hc, Int.mul_comm]⟩
   have e : N / c = a := by rw [hc]; exact Int.mul_ediv_cancel a (by omega)
   rw [e] at this
   exact this.2.2
 have e0 : e ≠ 0 := fun k => by subst k; have := Int.zero_dvd.1 he; omega
 rcases ilt_or e 0 with k | k
 ·have := (pos (-e) (by omega) (Int.neg_dvd.2 he)).2
  rwa [Int.neg_neg] at this
 ·exact (pos e (by omega) he).1
variable (S : FuncId -> Option (List AV -> Heap -> Option (AV × Heap)))
theorem div_run (h238 : S 238 = none) {H0 : Heap} {l b : Nat} {n N : Int} (hN : (N = n ∨ N = -n) /\ 1 <= N /\ N <= 1000) (hb : H0.get b = .cells true 3 [iv n]) (hb0 : b < H0.n) (hH : H0.n < lim)
  (J : Nat -> Heap -> Prop) (R : Heap -> Prop) (Q : Int -> Prop) (hJ : ∀ c H, J c H -> H.get b = .cells true 3 [iv N])
  (hy : ∀ c d H, J c H -> d ∣ N -> c < 124 -> ∃ k v' H', yieldF (ev (ctx.plus S) k) l [iv d] H = some (v', H') /\ ((v' = .bool true /\ ¬ Q d /\ J (c + 1) H') ∨ (v' = .bool false /\ R H')))
  (hend : ∀ c H, c <= 124 -> J c H -> (∀ d, d ∣ N -> ¬ Q d) -> R H) (h : ∀ H1, Upd H0 b (.cells true 3 [iv N]) H1 -> J 0 H1) :
  Cl (ctx.plus S) 238 [.yld l, .ptr b 0] H0 fun _ H' => R H' := by
 refine cl_of h238 fn238 ?_
 have hT : (ctx.plus S).ty = tget := rfl
 refine ⟨_, load_var hT hb, ?_⟩
 refine ⟨_, load_var hT hb, ?_⟩
 refine ⟨⟨by omega, by omega⟩, ?_⟩
 obtain ⟨m, e, h1, h2, h3⟩ := max_of2 (C := ctx.plus S) (ρ := opd (.yld l :: .ptr b 0 :: undefA :: undefA :: iv n :: iv n :: iv (0 - n) :: List.replicate 40 undefA)) (x := .tmp 4) (y := .tmp 6) (ts := #[3, 3]) rfl rfl
 have em : m = N := by omega
 subst em
 refine ⟨_, e, ?_⟩
 refine ⟨_, store_var hT hb, ?_⟩
 have hU := upd_set (H := H0) (b := b) (x := .cells true 3 [iv m]) hb0 hH
 have hJ0 := h _ hU
 refine ⟨fun z s => ∃ (d : Int) (c : Nat) (H' : Heap) (j2 j4 j5 j6 j7 j8 j9 j10 j11 j12 j13 j14 j15 j16 j17 j18 j19 j20 j21 j22 j23 j24 j25 j26 j27 j28 j29 j30 j31 j32 j33 j34 j35 j36 j37 j38 j39 j40 j41 j42 j43 j44 j45 j46 : AV),
  s = ⟨[.yld l, .ptr b 0, j2, iv d, j4, j5, j6, j7, j8, j9, j10, j11, j12, j13, j14, j15, j16, j17, j18, j19, j20, j21, j22, j23, j24, j25, j26, j27, j28, j29, j30, j31, j32, j33, j34, j35, j36, j37, j38, j39, j40, j41, j42, j43, j44, j45, j46], H', []⟩ /\ (z : Int) = 100 - d /\ (1 <= d /\ d <= 32) /\ (c : Int) <= 4 * (d - 1) /\ J c H' /\ ∀ e, 1 <= e -> e < d -> e ∣ m -> ¬ Q e /\ ¬ Q (-e) /\ ¬ Q (m / e) /\ ¬ Q (-(m / e)), ⟨99, ?_⟩, ?_⟩
 ·exact ⟨1, 0, _, _, _, _, _, _, _, _, _, _, _, _, _, _, _, _, _, _, _, _, _, _, _, _, _, _, _, _, _, _, _, _, _, _, _, _, _, _, _, _, _, _, _, _, _, rfl, by omega, by omega, by omega, hJ0, fun e h1 h2 => by omega⟩
 ·rintro z s ⟨d, c, H', j2, j4, j5, j6, j7, j8, j9, j10, j11, j12, j13, j14, j15, j16, j17, j18, j19, j20, j21, j22, j23, j24, j25, j26, j27, j28, j29, j30, j31, j32, j33, j34, j35, j36, j37, j38, j39, j40, j41, j42, j43, j44, j45, j46, rfl, hz, hd, hc, hJc, hq⟩
  have hdd := mul_bd (a := d) (b := d) (m := 32) (n := 32) (by omega) (by omega)
  refine ⟨⟨by omega, by omega⟩, ?_⟩
  refine ⟨_, load_var hT (hJ _ _ hJc), ?_⟩
  refine ⟨fun hle => ?_, fun hgt => ?_⟩
  ·have hd31 : d <= 31 := by
    rcases ilt_or d 32 with k | k
    ·omega
    ·exfalso
     have : d = 32 := by omega
     subst this; omega
   refine ⟨_, load_var hT (hJ _ _ hJc), ?_⟩
   have hrem : m.tmod d = m % d := Int.tmod_eq_emod_of_nonneg (by omega)
   have hquo : m.tdiv d = m / d := Int.tdiv_eq_ediv_of_nonneg (by omega)
   have hquo2 : (0 - m).tdiv d = -(m / d) := by rw [Int.zero_sub, Int.neg_tdiv, hquo]
   have hnext : ∀ (c' : Nat) (H2 : Heap), (c' : Int) <= 4 * d -> J c' H2 -> (d ∣ m -> ¬ Q d /\ ¬ Q (-d) /\ ¬ Q (m / d) /\ ¬ Q (-(m / d))) -> ∀ e, 1 <= e -> e < d + 1 -> e ∣ m -> ¬ Q e /\ ¬ Q (-e) /\ ¬ Q (m / e) /\ ¬ Q (-(m / e)) := fun c' H2 _ _ hqd e h1 h2 h3 => by
    rcases ilt_or e d with k | k
    ·exact hq e h1 k h3
    ·have : e = d := by omega
     subst this; exact hqd h3
   refine ⟨by omega, ?_⟩
   rw [hrem]
   refine ⟨fun hne => ?_, fun heq => ?_⟩
   ·refine ⟨⟨by omega, by omega⟩, ?_⟩
    exact ⟨z - 1, by omega, d + 1, c, H', _, _, _, _, _, _, _, _, _, _, _, _, _, _, _, _, _, _, _, _, _, _, _, _, _, _, _, _, _, _, _, _, _, _, _, _, _, _, _, _, _, _, _, _, rfl, by omega, by omega, by omega, hJc, hnext c H' (by omega) hJc fun hdv => absurd (Int.emod_eq_zero_of_dvd hdv) hne⟩
   ·have hdv : d ∣ m := Int.dvd_of_emod_eq_zero heq
    have hq1 : m / d ∣ m := ⟨d, by rw [Int.ediv_mul_cancel hdv]⟩
    have hqb : 0 <= m / d /\ m / d <= 1000 := ⟨Int.ediv_nonneg (by omega) (by omega), Int.le_trans (Int.ediv_le_self d (by omega)) (by omega)⟩
    obtain ⟨k1, v1, G1, y1, z1⟩ := hy c d H' hJc hdv (by omega)
    refine ⟨k1, v1, G1, by simp only [effE, opd, opds]; exact y1, ?_⟩
    rcases z1 with ⟨rfl, q1, J1⟩ | ⟨rfl, hR⟩
    case inr => exact hR
    refine ⟨⟨by omega, by omega⟩, ?_⟩
    rw [Int.zero_sub]
    obtain ⟨k2, v2, G2, y2, z2⟩ := hy (c + 1) (-d) G1 J1 (Int.neg_dvd.2 hdv) (by omega)
    refine ⟨k2, v2, G2, by simp only [effE, opd, opds]; exact y2, ?_⟩
    rcases z2 with ⟨rfl, q2, J2⟩ | ⟨rfl, hR⟩
    case inr => exact hR
    refine ⟨_, load_var hT (hJ _ _ J2), ?_⟩
    refine ⟨⟨by omega, by rw [hquo]; unfold In64; omega⟩, ?_⟩
    rw [hquo]
    obtain ⟨k3, v3, G3, y3, z3⟩ := hy (c + 1 + 1) (m / d) G2 J2 hq1 (by omega)
    refine ⟨k3, v3, G3, by simp only [effE, opd, opds]; exact y3, ?_⟩
    rcases z3 with ⟨rfl, q3, J3⟩ | ⟨rfl, hR⟩
    case inr => exact hR
    refine ⟨_, load_var hT (hJ _ _ J3), ?_⟩
    refine ⟨⟨by omega, by omega⟩, ?_⟩
    refine ⟨⟨by omega, by rw [hquo2]; unfold In64; omega⟩, ?_⟩
    rw [hquo2]
    obtain ⟨k4, v4, G4, y4, z4⟩ := hy (c + 1 + 1 + 1) (-(m / d)) G3 J3 (Int.neg_dvd.2 hq1) (by omega)
    refine ⟨k4, v4, G4, by simp only [effE, opd, opds]; exact y4, ?_⟩
    rcases z4 with ⟨rfl, q4, J4⟩ | ⟨rfl, hR⟩
    case inr => exact hR
    refine ⟨⟨by omega, by omega⟩, ?_⟩
    exact ⟨z - 1, by omega, d + 1, c + 1 + 1 + 1 + 1, G4, _, _, _, _, _, _, _, _, _, _, _, _, _, _, _, _, _, _, _, _, _, _, _, _, _, _, _, _, _, _, _, _, _, _, _, _, _, _, _, _, _, _, _, _, rfl, by omega, by omega, by omega, J4, hnext (c + 1 + 1 + 1 + 1) G4 (by omega) J4 fun _ => ⟨q1, q2, q3, q4⟩⟩
  ·exact hend c H' (by omega) hJc (covers hN.2.1 hgt hd.1 hq)
end Go.PI

open Go.Proofs
namespace Go.PI
open IM
set_option maxRecDepth 10000
set_option maxHeartbeats 1000000
variable (S : FuncId -> Option (List AV -> Heap -> Option (AV × Heap)))
theorem divisors_run (h200 : S 200 = none) {H : Heap} {n : Int} (hn : H.n + 2 < lim) : Cl (ctx.plus S) 200 [iv n] H fun r H' => r = .fn 238 [] [.ptr H.n 0] /\ H' = H.push (.cells true 3 [iv n]) := by
 refine cl_of h200 fn200 ?_
 refine ⟨by omega, ?_⟩
 refine ⟨_, rfl, ?_⟩
 exact ⟨rfl, rfl⟩
theorem range_div (h238 : S 238 = none) {f : Operand} {p : Tmp} {assign body : Code} {T : List AV} {H1 : Heap} {D : List Nat} {Q : Ex -> St -> Prop} {b : Nat} {n N : Int}
  (hn : H1.n + 2 < lim) (hf : opd T f = some (.fn 238 [] [.ptr b 0])) (hN : (N = n ∨ N = -n) /\ 1 <= N /\ N <= 1000) (hb : H1.get b = .cells true 3 [iv n]) (hb0 : b < H1.n)
  (I : Nat -> Heap -> Prop) (P : Int -> Prop)
  (hI : ∀ c H, I c H -> H.get b = .cells true 3 [iv N] /\ H.n < lim /\ H1.n + 1 < H.n)
  (hfr : ∀ c H x H', I c H -> Upd H (H1.n + 1) x H' -> I c H')
  (h0 : ∀ H, H.n = H1.n + 2 -> (∀ A, A < H1.n -> A ≠ b -> H.get A = H1.get A) -> H.get b = .cells true 3 [iv N] -> H.get H1.n = .dfr -> I 0 H)
  (hstep : ∀ c d H L, I c H -> d ∣ N -> c < 124 -> H.get (H1.n + 1) = .loop L →
   vC (ctx.plus S) (some (H1.n + 1)) assign ⟨T.set p (iv d), H, []⟩ fun e1 s1 => e1 = .normal /\ s1.D = [] /\ s1.H = H /\ ∀ H' L', Upd H (H1.n + 1) (.loop L') H' →
    vC (ctx.plus S) (some (H1.n + 1)) body ⟨s1.T, H', []⟩ fun e2 s2 => s2.D = [] /\ s2.H.get (H1.n + 1) = .loop L' /\ (match e2 with
     | .normal => ¬ P d /\ I (c + 1) s2.H
     | .goto _ => False
     | e2 => s2.H.n < lim /\ H1.n + 1 < s2.H.n /\ ∀ H3, Upd s2.H (H1.n + 1) .dead H3 -> Q e2 ⟨T, H3, H1.n :: D⟩))
  (hend : ∀ c H H3, c <= 124 -> I c H -> (∀ d, d ∣ N -> ¬ P d) -> Upd H (H1.n + 1) .dead H3 -> Q .normal ⟨T, H3, H1.n :: D⟩) :
  ∃ n e s', rangeF (ctx.plus S) (ev (ctx.plus S) n) none f #[p] assign body ⟨T, H1, D⟩ = some (e, s') /\ Q e s' := by
 have hT : (ctx.plus S).ty = tget := rfl
 refine range_of (by omega) hf (by show (ctx.fn 238).isNone = false; rw [fn238]; rfl) ?_
 have hp1 := Heap.get_push (H := H1) (b := .dfr) (by omega)
 have hpn : (H1.push .dfr).n = H1.n + 1 := rfl
 have hp2 := Heap.get_push (H := H1.push .dfr) (b := .loop { state := .ready, pending := none, tmps := T, params := #[p], assign := assign, body := body, dfr := H1.n }) (by omega)
 have hpn2 : ((H1.push .dfr).push (.loop { state := .ready, pending := none, tmps := T, params := #[p], assign := assign, body := body, dfr := H1.n })).n = H1.n + 2 := rfl
 generalize hL0 : ({ state := .ready, pending := none, tmps := T, params := #[p], assign := assign, body := body, dfr := H1.n } : ALoop) = L0 at hp2 hpn2 ⊢
 generalize (H1.push .dfr).push (.loop L0) = H2 at hp2 hpn2 ⊢
 rw [hpn] at hp2
 refine (div_run S h238 (l := H1.n + 1) (b := b) (n := n) (N := N) hN (by rw [hp2, if_neg (by omega), hp1, if_neg (by omega)]; exact hb) (by omega) (by omega) (fun c H => I c H /\ H.get (H1.n + 1) = .loop L0)
  (fun H3 => ∃ lp, H3.get (H1.n + 1) = .loop lp /\ lp.state ≠ .busy /\ match lp.pending with
    | none => Q .normal ⟨T, H3.set (H1.n + 1) .dead, H1.n :: D⟩
    | some c => Runs (ctx.plus S) none c ⟨T, H3.set (H1.n + 1) .dead, H1.n :: D⟩ Q) P (fun c H h => (hI c H h.1).1) ?_ ?_ ?_).mono (fun _ _ h => h)
 ·rintro c d H ⟨hIk, hl⟩ hd hc
  obtain ⟨-, hHn, hHl⟩ := hI _ _ hIk
  refine yield_of (K := fun v' H' => (v' = .bool true /\ ¬ P d /\ I (c + 1) H' /\ H'.get (H1.n + 1) = .loop L0) ∨ (v' = .bool false /\ ∃ lp, H'.get (H1.n + 1) = .loop lp /\ lp.state ≠ .busy /\ match lp.pending with
    | none => Q .normal ⟨T, H'.set (H1.n + 1) .dead, H1.n :: D⟩
    | some c => Runs (ctx.plus S) none c ⟨T, H'.set (H1.n + 1) .dead, H1.n :: D⟩ Q)) hl (by subst hL0; rfl) (by subst hL0; rfl) ?_
  have hs := hstep c d H L0 hIk hd hc hl
  have h1 := vC_ok hs
  subst hL0
  refine h1.mono ?_
  rintro e1 ⟨T1, H1', D1⟩ ⟨rfl, rfl, rfl, h2⟩
  refine ⟨rfl, rfl, _, hl, rfl, ?_⟩
  have hU := upd_set (b := H1.n + 1) (x := .loop { state := .busy, pending := none, tmps := T, params := #[p], assign := assign, body := body, dfr := H1.n }) hHl hHn
  refine (vC_ok (h2 _ _ hU)).mono ?_
  rintro e2 ⟨T2, H2', D2⟩ ⟨rfl, h3, h4⟩
  refine ⟨rfl, _, h3, ?_⟩
  cases e2 with
  | normal =>
   obtain ⟨hnp, h4⟩ := h4
   obtain ⟨-, g1, g2⟩ := hI _ _ h4
   have hU2 := upd_set (b := H1.n + 1) (x := .loop { state := .ready, pending := none, tmps := T, params := #[p], assign := assign, body := body, dfr := H1.n }) g2 g1
   exact .inl ⟨rfl, hnp, hfr _ _ _ _ h4 hU2, hU2.at_⟩
  | goto g => exact h4.elim
  | exit i =>
   obtain ⟨g1, g2, g3⟩ := h4
   have hU2 := upd_set (b := H1.n + 1) (x := .loop { state := .done, pending := some (.exit i), tmps := T, params := #[p], assign := assign, body := body, dfr := H1.n }) g2 g1
   have hU3 := upd_set (b := H1.n + 1) (x := .dead) (by rw [hU2.n]; exact g2) (by rw [hU2.n]; exact g1)
   refine .inr ⟨rfl, _, hU2.at_, by simp, ?_⟩
   exact ⟨1, _, _, rfl, g3 _ (hU2.trans hU3)⟩
  | ret =>
   obtain ⟨g1, g2, g3⟩ := h4
   have hU2 := upd_set (b := H1.n + 1) (x := .loop { state := .done, pending := some .ret, tmps := T, params := #[p], assign := assign, body := body, dfr := H1.n }) g2 g1
   have hU3 := upd_set (b := H1.n + 1) (x := .dead) (by rw [hU2.n]; exact g2) (by rw [hU2.n]; exact g1)
   refine .inr ⟨rfl, _, hU2.at_, by simp, ?_⟩
   exact ⟨1, _, _, rfl, g3 _ (hU2.trans hU3)⟩
 ·rintro c H hc ⟨hI0, hl⟩ hall
  obtain ⟨-, g1, g2⟩ := hI _ _ hI0
  refine ⟨L0, hl, by subst hL0; simp, ?_⟩
  have hU3 := upd_set (b := H1.n + 1) (x := .dead) g2 g1
  subst hL0
  exact hend _ _ _ hc hI0 hall hU3
 ·intro H3 hU
  refine ⟨h0 _ (by rw [hU.n]; exact hpn2) (fun A hA hne => ?_) hU.at_ ?_, ?_⟩
  ·rw [hU.other A hne, hp2, if_neg (by omega), hp1, if_neg (by omega)]
  ·rw [hU.other _ (by omega), hp2, if_neg (by omega), hp1, if_pos rfl]
  ·rw [hU.other _ (by omega), hp2, if_pos rfl]
end Go.PI

open Go.Proofs
namespace Go.PI
open IM
theorem fn138 : ctx.fn 138 = some c138 := by kernel_rfl
set_option maxRecDepth 10000
set_option maxHeartbeats 4000000
section
variable {C : Ctx} (hT : C.ty = tget)
include hT
theorem ty4 : C.ty 4 = some t4 := by rw [hT]; rfl
theorem load_bv {H : Heap} {b : Nat} {rw : Bool} {ty : TypeId} {n : Bool} (h : H.get b = .cells rw ty [.bool n]) : loadE C 4 (.ptr b 0) H = some (.bool n) := by
 simp only [loadE, ty4 hT, h, partE, t4]; rfl
theorem store_bv {H : Heap} {b : Nat} {u : AV} {n : Bool} (h : H.get b = .cells true 4 [u]) : storeE C 4 (.ptr b 0) (.bool n) H = some (H.set b (.cells true 4 [.bool n])) := by
 simp only [storeE, ty4 hT, t4, h, AV.cells]; rfl
end
def PrD (ps : List Int) (d : Int) : Prop := pv ps d = 0 ∨ ∃ p0 p1 p2 p3, ps = [p0, p1, p2, p3, 1] /\ ∃ a c e, Quad p0 p1 p2 p3 d a c e /\ c <= a
theorem hasP_zero {cs : List Int} : HasP (0 :: cs) := ⟨0, cs, rfl, .inl rfl⟩
theorem hasP_iff {p0 : Int} {cs : List Int} (k0 : p0 ≠ 0) : HasP (p0 :: cs) ↔ ∃ d, d ∣ p0 /\ PrD (p0 :: cs) d := by
 constructor
 ·rintro ⟨q0, ds, e, h⟩
  cases e
  rcases h with h | ⟨b, hb, h | ⟨p1, p2, p3, rfl, h⟩⟩
  ·exact absurd h k0
  ·exact ⟨b, hb, .inl h⟩
  ·exact ⟨b, hb, .inr ⟨p0, p1, p2, p3, rfl, h⟩⟩
 ·rintro ⟨d, hd, h | ⟨q0, p1, p2, p3, e, h⟩⟩
  ·exact ⟨p0, cs, rfl, .inr ⟨d, hd, .inl h⟩⟩
  ·cases e
   exact ⟨p0, _, rfl, .inr ⟨d, hd, .inr ⟨p1, p2, p3, rfl, h⟩⟩⟩
variable (S : FuncId -> Option (List AV -> Heap -> Option (AV × Heap)))
theorem hasDiv_run (h138 : S 138 = none) (h200 : S 200 = none) (h238 : S 238 = none) (h201 : S 201 = none) (h182 : S 182 = none) (h228 : S 228 = none) (h202 : S 202 = none) (h239 : S 239 = none) (h141 : S 141 = none) (h205 : S 205 = none) (h206 : S 206 = none)
  {H : Heap} {p : AV} {p0 : Int} {cs : List Int} (hn : H.n + 3000 < lim) (hp : Sl H p (p0 :: cs)) (hc : Cf (p0 :: cs)) (hl : 1 <= cs.length /\ cs.length <= 4) (hm : cs.length = 4 -> ∃ p1 p2 p3, cs = [p1, p2, p3, 1]) :
  Cl (ctx.plus S) 138 [p] H fun r H' => (∃ β : Bool, r = .bool β /\ (β = true ↔ (cs.length ≠ 1 /\ HasP (p0 :: cs)))) /\ Kp H H' 2000 := by
 refine cl_of h138 fn138 ?_
 have hT : (ctx.plus S).ty = tget := rfl
 have b0 := hc p0 (by simp)
 have hp0 := Heap.get_push (H := H) (b := .cells true 22 p.cells) (by omega)
 have hpn0 : (H.push (.cells true 22 p.cells)).n = H.n + 1 := rfl
 have hp1 := Heap.get_push (H := H.push (.cells true 22 p.cells)) (b := .cells true 4 t4.zero.cells) (by omega)
 have hpn1 : ((H.push (.cells true 22 p.cells)).push (.cells true 4 t4.zero.cells)).n = H.n + 2 := rfl
 rw [hpn0] at hp1
 let H1 : Heap := (H.push (.cells true 22 p.cells)).push (.cells true 4 t4.zero.cells)
 have hn1 : H1.n = H.n + 2 := hpn1
 have g0 : H1.get H.n = .cells true 22 [p] := by rw [hp1, if_neg (by omega), hp0, if_pos rfl, hp.cells.1]
 have g1 : H1.get (H.n + 1) = .cells true 4 [.bool false] := by rw [hp1, if_pos rfl]; rfl
 have kk : ∀ A, A < H.n -> H1.get A = H.get A := fun A hA => by rw [hp1, if_neg (by omega), hp0, if_neg (by omega)]
 have hps1 : Sl H1 p (p0 :: cs) := hp.mono kk
 have hlen : ((p0 :: cs).length : Int) = cs.length + 1 := by simp
 have pz : (p0 :: cs)[0]? = some p0 := rfl
 have fin : ∀ (H2 H3 : Heap) (β : Bool), H2.n <= H.n + 2000 -> H.n + 1 < H2.n -> (∀ A, A < H.n -> H2.get A = H.get A) -> Upd H2 (H.n + 1) (.cells true 4 [.bool β]) H3 -> (β = true ↔ (cs.length ≠ 1 /\ HasP (p0 :: cs))) →
   ∃ v, loadE (ctx.plus S) 4 (.ptr (H.n + 1) 0) H3 = some v /\ ((∃ β : Bool, v = .bool β /\ (β = true ↔ (cs.length ≠ 1 /\ HasP (p0 :: cs)))) /\ Kp H H3 2000) := by
  intro H2 H3 β a1 a2 a3 hU hβ
  have := hU.n
  exact ⟨_, load_bv hT hU.at_, ⟨β, rfl, hβ⟩, by omega, by omega, fun A hA => by rw [hU.other A (by omega)]; exact a3 A hA⟩
 refine ⟨by omega, by show H.n + 1 < lim; omega, ?_⟩
 refine ⟨_, load_slv hT g0, ?_⟩
 refine ⟨_, len_sl hT (v := p) rfl hps1, ?_⟩
 refine ⟨fun h2 => ?_, fun h2 => ?_⟩
 ·refine ⟨_, store_bv hT g1, ?_⟩
  have hU := upd_set (H := H1) (b := H.n + 1) (x := .cells true 4 [.bool false]) (by omega) (by omega)
  exact fin H1 _ false (by omega) (by omega) kk hU ⟨fun h => (by cases h), fun h => absurd (by omega) h.1⟩
 ·refine ⟨_, load_slv hT g0, ?_⟩
  refine ⟨_, idx_sl hT (v := p) (n := 0) (k := 0) rfl rfl hps1 rfl (by simp), ?_⟩
  refine ⟨_, load_sl hT hps1 pz, ?_⟩
  refine ⟨fun hz => ?_, fun hz => ?_⟩
  ·refine ⟨_, store_bv hT g1, ?_⟩
   have hU := upd_set (H := H1) (b := H.n + 1) (x := .cells true 4 [.bool true]) (by omega) (by omega)
   exact fin H1 _ true (by omega) (by omega) kk hU ⟨fun _ => ⟨by omega, by rw [hz]; exact hasP_zero⟩, fun _ => rfl⟩
  ·refine ⟨_, load_slv hT g0, ?_⟩
   refine ⟨_, idx_sl hT (v := p) (n := 0) (k := 0) rfl rfl hps1 rfl (by simp), ?_⟩
   refine ⟨_, load_sl hT hps1 pz, ?_⟩
   refine (divisors_run S h200 (H := H1) (n := p0) (by omega)).mono ?_
   rintro _ _ ⟨rfl, rfl⟩
   have hp2 := Heap.get_push (H := H1) (b := .cells true 3 [iv p0]) (by omega)
   have hpn2 : (H1.push (.cells true 3 [iv p0])).n = H.n + 3 := by show H1.n + 1 = _; omega
   rw [hn1] at hp2
   let H2 : Heap := H1.push (.cells true 3 [iv p0])
   have hn2 : H2.n = H.n + 3 := hpn2
   obtain ⟨N, hN⟩ : ∃ N : Int, (N = p0 ∨ N = -p0) /\ 1 <= N /\ N <= 1000 := by
    rcases ilt_or p0 0 with h | h
    ·exact ⟨-p0, by omega⟩
    ·exact ⟨p0, by omega⟩
   have hdv : ∀ d : Int, d ∣ N ↔ d ∣ p0 := fun d => by
    rcases hN.1 with h | h
    ·rw [h]
    ·rw [h]; exact Int.dvd_neg
   have finR : ∀ (G : Heap) (β : Bool), (∀ A, A < H.n -> G.get A = H.get A) -> G.get (H.n + 1) = .cells true 4 [.bool β] -> G.get (H.n + 3) = .dfr -> H.n + 5 <= G.n -> G.n <= H.n + 2000 -> (β = true ↔ (cs.length ≠ 1 /\ HasP (p0 :: cs))) →
     ∃ G3, shutMarks [H2.n] G = some G3 /\ ∃ v, loadE (ctx.plus S) 4 (.ptr (H.n + 1) 0) G3 = some v /\ ((∃ β : Bool, v = .bool β /\ (β = true ↔ (cs.length ≠ 1 /\ HasP (p0 :: cs)))) /\ Kp H G3 2000) := by
    intro G β e1 e2 e3 e4 e5 hβ
    have hd : G.get H2.n = .dfr := by rw [hn2]; exact e3
    have hW := upd_set (H := G) (b := H2.n) (x := .dead) (by omega) (by omega)
    have := hW.n
    exact ⟨G.set H2.n .dead, by simp only [shutMarks, hd], _, load_bv hT (by rw [hW.other _ (by omega)]; exact e2), ⟨β, rfl, hβ⟩, by omega, by omega, fun A hA => by rw [hW.other A (by omega)]; exact e1 A hA⟩
   refine range_div S h238 (H1 := H2) (b := H.n + 2) (n := p0) (N := N) (Nat.lt_of_le_of_lt (Nat.le_of_eq (congrArg (· + 2) hpn2)) (by omega)) (by show some (AV.fn 238 [] [.ptr H1.n 0]) = _; rw [hn1]) hN (by rw [hp2, if_pos rfl]) (by omega)
    (fun c H' => (∀ A, A < H.n -> H'.get A = H.get A) /\ H'.get H.n = .cells true 22 [p] /\ H'.get (H.n + 1) = .cells true 4 [.bool false] /\ H'.get (H.n + 2) = .cells true 3 [iv N] /\ H'.get (H.n + 3) = .dfr /\ H.n + 5 <= H'.n /\ H'.n <= H.n + 5 + 11 * c /\ c <= 124) (PrD (p0 :: cs)) ?_ ?_ ?_ ?_ ?_
   ·rintro c H' ⟨a1, a2, a3, a4, a5, a6, a7, a8⟩
    exact ⟨a4, by omega, by omega⟩
   ·rintro c H' x H3 ⟨a1, a2, a3, a4, a5, a6, a7, a8⟩ hV
    have := hV.n
    exact ⟨fun A hA => by rw [hV.other A (by omega)]; exact a1 A hA, by rw [hV.other _ (by omega)]; exact a2, by rw [hV.other _ (by omega)]; exact a3, by rw [hV.other _ (by omega)]; exact a4, by rw [hV.other _ (by omega)]; exact a5, by omega, by omega, a8⟩
   ·intro H' e1 e2 e3 e4
    refine ⟨fun A hA => by rw [e2 A (by omega) (by omega), hp2, if_neg (by omega)]; exact kk A hA, ?_, ?_, e3, by rw [← hn2]; exact e4, by omega, by omega, by omega⟩
    ·rw [e2 _ (by omega) (by omega), hp2, if_neg (by omega)]; exact g0
    ·rw [e2 _ (by omega) (by omega), hp2, if_neg (by omega)]; exact g1
   ·rintro c d H' L ⟨a1, a2, a3, a4, a5, a6, a7, a8⟩ hd hc124 hL
    have hdp := (hdv d).1 hd
    have hds := dvd_small hdp hz b0
    refine ⟨rfl, rfl, rfl, ?_⟩
    intro H3 L' hV
    have hn3 := hV.n
    have d0 : ∀ A, A < H.n -> H3.get A = H.get A := fun A hA => by rw [hV.other A (by omega)]; exact a1 A hA
    have d2 : H3.get H.n = .cells true 22 [p] := by rw [hV.other _ (by omega)]; exact a2
    have d3 : H3.get (H.n + 1) = .cells true 4 [.bool false] := by rw [hV.other _ (by omega)]; exact a3
    have d4 : H3.get (H.n + 2) = .cells true 3 [iv N] := by rw [hV.other _ (by omega)]; exact a4
    have d5 : H3.get (H.n + 3) = .dfr := by rw [hV.other _ (by omega)]; exact a5
    have d6 : H3.get (H2.n + 1) = .loop L' := hV.at_
    -- a divisor is found
    have found : ∀ (G : Heap) (k : Nat), k <= 11 -> Kp H3 G k -> PrD (p0 :: cs) d -> ∃ G1, storeE (ctx.plus S) 4 (.ptr (H.n + 1) 0) (.bool true) G = some G1 /\ (G1.get (H2.n + 1) = .loop L' /\ G1.n < lim /\ H2.n + 1 < G1.n /\ ∀ G2, Upd G1 (H2.n + 1) .dead G2 →
      ∃ G3, shutMarks [H2.n] G2 = some G3 /\ ∃ v, loadE (ctx.plus S) 4 (.ptr (H.n + 1) 0) G3 = some v /\ ((∃ β : Bool, v = .bool β /\ (β = true ↔ (cs.length ≠ 1 /\ HasP (p0 :: cs)))) /\ Kp H G3 2000)) := by
     intro G k hk hK hP
     have k1 := hK.n
     have k2 := hK.m
     have hW := upd_set (H := G) (b := H.n + 1) (x := .cells true 4 [.bool true]) (by omega) (by omega)
     have hWn := hW.n
     refine ⟨_, store_bv hT (by rw [hK.get _ (by omega)]; exact d3), ?_, by omega, by omega, ?_⟩
     ·rw [hW.other _ (by omega), hK.get _ (by omega)]; exact d6
     ·intro G2 hX
      have hXn := hX.n
      refine finR G2 true (fun A hA => ?_) ?_ ?_ (by omega) (by omega) ⟨fun _ => ⟨by omega, (hasP_iff hz).2 ⟨d, hdp, hP⟩⟩, fun _ => rfl⟩
      ·rw [hX.other A (by omega), hW.other A (by omega), hK.get A (by omega)]; exact d0 A hA
      ·rw [hX.other _ (by omega)]; exact hW.at_
      ·rw [hX.other _ (by omega), hW.other _ (by omega), hK.get _ (by omega)]; exact d5
    -- it is none
    have none_ : ∀ (G : Heap) (k : Nat), k <= 11 -> Kp H3 G k -> G.get (H2.n + 1) = .loop L' /\ ((∀ A, A < H.n -> G.get A = H.get A) /\ G.get H.n = .cells true 22 [p] /\ G.get (H.n + 1) = .cells true 4 [.bool false] /\ G.get (H.n + 2) = .cells true 3 [iv N] /\ G.get (H.n + 3) = .dfr /\ H.n + 5 <= G.n /\ G.n <= H.n + 5 + 11 * (c + 1) /\ c + 1 <= 124) := by
     intro G k hk hK
     have k1 := hK.n
     have k2 := hK.m
     exact ⟨by rw [hK.get _ (by omega)]; exact d6, fun A hA => by rw [hK.get _ (by omega)]; exact d0 A hA, by rw [hK.get _ (by omega)]; exact d2, by rw [hK.get _ (by omega)]; exact d3, by rw [hK.get _ (by omega)]; exact d4, by rw [hK.get _ (by omega)]; exact d5, by omega, by omega, by omega⟩
    have hps3 : Sl H3 p (p0 :: cs) := hp.mono d0
    refine ⟨_, load_slv hT d2, ?_⟩
    refine (horner_run S h201 h182 h228 (H := H3) (x := d) (by omega) hps3 hc (by simp; omega) (by omega)).mono ?_
    rintro _ H4 ⟨rfl, hK⟩
    have hK1 := hK.n
    have hK2 := hK.m
    refine ⟨fun h0 => ?_, fun h0 => ?_⟩
    ·obtain ⟨G1, f1, f2, f3⟩ := found H4 10 (by omega) hK (.inl h0)
     exact ⟨G1, f1, rfl, f2, f3⟩
    ·refine ⟨_, load_slv hT (by rw [hK.get _ (by omega)]; exact d2), ?_⟩
     refine ⟨_, len_sl hT (v := p) rfl (hps3.kp hK), ?_⟩
     refine ⟨fun h5 => ?_, fun h5 => ?_⟩
     ·obtain ⟨p1, p2, p3, rfl⟩ := hm (by omega)
      obtain ⟨e, he⟩ := hdp
      refine ⟨_, load_slv hT (by rw [hK.get _ (by omega)]; exact d2), ?_⟩
      refine (hquad_run S h202 h239 h141 h205 h206 (H := H4) (b := d) (d := e) (by omega) (hps3.kp hK) hc hz he.symm).mono ?_
      rintro _ H5 ⟨⟨β, rfl, hβ⟩, hK'⟩
      have hKK := hK.trans hK' (c := 11) (by omega)
      cases β with
      | true =>
       obtain ⟨G1, f1, f2, f3⟩ := found H5 11 (by omega) hKK (.inr ⟨p0, p1, p2, p3, rfl, hβ.1 rfl⟩)
       exact ⟨G1, f1, rfl, f2, f3⟩
      | false =>
       obtain ⟨f1, f2⟩ := none_ H5 11 (by omega) hKK
       refine ⟨rfl, f1, ?_, f2⟩
       rintro (h | ⟨q0, q1, q2, q3, e, h⟩)
       ·exact h0 h
       ·cases e
        have := hβ.2 h
        cases this
     ·obtain ⟨f1, f2⟩ := none_ H4 10 (by omega) hK
      refine ⟨rfl, f1, ?_, f2⟩
      rintro (h | ⟨q0, q1, q2, q3, e, h⟩)
      ·exact h0 h
      ·cases e
       exact h5 rfl
   ·rintro c H' H3 hc124 ⟨a1, a2, a3, a4, a5, a6, a7, a8⟩ hall hV
    have hn3 := hV.n
    have hW := upd_set (H := H3) (b := H.n + 1) (x := .cells true 4 [.bool false]) (by omega) (by omega)
    have hWn := hW.n
    refine ⟨_, store_bv hT (by rw [hV.other _ (by omega)]; exact a3), ?_⟩
    refine finR (H3.set (H.n + 1) (.cells true 4 [.bool false])) false (fun A hA => ?_) hW.at_ ?_ (by omega) (by omega) ⟨fun h => (by cases h), fun h => ?_⟩
    ·rw [hW.other A (by omega), hV.other A (by omega)]; exact a1 A hA
    ·rw [hW.other _ (by omega), hV.other _ (by omega)]; exact a5
    ·obtain ⟨d, h1, h2⟩ := (hasP_iff hz).1 h.2
     exact absurd h2 (hall d ((hdv d).2 h1))
end Go.PI

namespace Go.PI
open IM
set_option maxRecDepth 10000
def sc (k : Int) (l : List Int) : List Int := l.map (k * ·)
theorem sc_length {k : Int} {l : List Int} : (sc k l).length = l.length := by simp [sc]
theorem sc_nil {k : Int} : sc k [] = [] := rfl
theorem sc_getD {k : Int} {l : List Int} {i : Nat} : (sc k l).getD i 0 = k * l.getD i 0 := by
 unfold sc
 simp only [List.getD_eq_getElem?_getD, List.getElem?_map]
 cases l[i]? with
 | none => simp
 | some x => simp
theorem sc_sc {a b : Int} {l : List Int} : sc a (sc b l) = sc (a * b) l := by
 simp only [sc, List.map_map]
 congr 1
 funext x
 simp [Int.mul_assoc]
theorem sc_neg {k : Int} {l : List Int} : (sc k l).map (fun x => -x) = sc k (l.map fun x => -x) := by
 simp only [sc, List.map_map]
 congr 1
 funext x
 simp [Int.mul_neg]
theorem trim_sc {k : Int} (hk : k ≠ 0) (l : List Int) : trimL (sc k l) = sc k (trimL l) := by
 induction l with
 | nil => rfl
 | cons x xs ih =>
  have e : sc k (x :: xs) = k * x :: sc k xs := rfl
  rw [e]
  simp only [trimL]
  rw [ih]
  cases h : trimL xs with
  | nil =>
   simp only [sc_nil]
   by_cases hx : x = 0
   ·subst hx; simp [sc]
   ·have : k * x ≠ 0 := fun h => by rcases Int.mul_eq_zero.1 h with h | h <;> contradiction
    simp [this, hx, sc]
  | cons y ys => rfl
theorem trim_snoc_zero (l : List Int) : trimL (l ++ [0]) = trimL l := trim_zeros l 1
theorem trim_len (l : List Int) : (trimL l).length <= l.length := (trim_take l).2.2
theorem sign_pos_mul {k x : Int} (hk : 0 < k) : Int.sign (k * x) = Int.sign x := by rw [Int.sign_mul, Int.sign_eq_one_of_pos hk, Int.one_mul]
def stepP (p q : List Int) : List Int :=
 trimL ((List.range (p.length - 1)).map fun i => p.getD i 0 * (q.getD (q.length - 1) 0).natAbs - if p.length - q.length <= i then p.getD (p.length - 1) 0 * Int.sign (q.getD (q.length - 1) 0) * q.getD (i - (p.length - q.length)) 0 else 0)
def stepR (p q : List Int) : List Int :=
 trimL ((List.range p.length).map fun i => p.getD i 0 * q.getD (q.length - 1) 0 * q.getD (q.length - 1) 0 - if p.length - q.length <= i then p.getD (p.length - 1) 0 * q.getD (q.length - 1) 0 * q.getD (i - (p.length - q.length)) 0 else 0)
theorem abs_sign (x : Int) : Int.sign x * (x.natAbs : Int) = x := Int.sign_mul_natAbs x
theorem abs_sq (x : Int) : (x.natAbs : Int) * x.natAbs = x * x := Int.natAbs_mul_self
theorem step_sc {p q : List Int} {c d : Int} (hc : 0 < c) (hd : 0 < d) (hq : 1 <= q.length) (hqp : q.length <= p.length) (hl : q.getD (q.length - 1) 0 ≠ 0) :
  stepR (sc c p) (sc d q) = sc (c * d * d * (q.getD (q.length - 1) 0).natAbs) (stepP p q) := by
 have hC : c * d * d * ((q.getD (q.length - 1) 0).natAbs : Int) ≠ 0 := by
  have h1 := Int.mul_pos (Int.mul_pos hc hd) hd
  have h2 : (0:Int) < (q.getD (q.length - 1) 0).natAbs := by omega
  have := Int.mul_pos h1 h2
  omega
 unfold stepR stepP
 rw [← trim_sc hC]
 simp only [sc_length, sc_getD]
 obtain ⟨m, hm⟩ : ∃ m, p.length = m + 1 := ⟨p.length - 1, by omega⟩
 rw [hm, List.range_succ, List.map_append, Nat.add_sub_cancel]
 generalize hL : q.getD (q.length - 1) 0 = L at *
 have htop : (List.map (fun i => c * p.getD i 0 * (d * L) * (d * L) - if m + 1 - q.length <= i then c * p.getD m 0 * (d * L) * (d * q.getD (i - (m + 1 - q.length)) 0) else 0) [m]) = [0] := by
  have e : m - (m + 1 - q.length) = q.length - 1 := by omega
  simp only [List.map_cons, List.map_nil, if_pos (show m + 1 - q.length <= m by omega), e, hL]
  congr 1
  omega
 rw [htop, trim_snoc_zero]
 congr 1
 unfold sc
 rw [List.map_map]
 apply List.map_congr_left
 intro i _
 simp only [Function.comp]
 have a1 := abs_sq L
 have a2 := abs_sign L
 by_cases h : m + 1 - q.length <= i
 ·simp only [if_pos h]
  generalize p.getD i 0 = x
  generalize p.getD m 0 = t
  generalize q.getD (i - (m + 1 - q.length)) 0 = y
  generalize (L.natAbs : Int) = A at *
  generalize Int.sign L = g at *
  grind
 ·simp only [if_neg h]
  generalize p.getD i 0 = x
  generalize (L.natAbs : Int) = A at *
  grind
theorem stepP_len {p q : List Int} (hp : 1 <= p.length) : (stepP p q).length < p.length := by
 unfold stepP
 have := trim_len ((List.range (p.length - 1)).map fun i => p.getD i 0 * (q.getD (q.length - 1) 0).natAbs - if p.length - q.length <= i then p.getD (p.length - 1) 0 * Int.sign (q.getD (q.length - 1) 0) * q.getD (i - (p.length - q.length)) 0 else 0)
 simp only [List.length_map, List.length_range] at this
 omega
def remP : Nat -> List Int -> List Int -> List Int
 | 0, p, _ => p
 | n + 1, p, q => if q.length <= p.length then remP n (stepP p q) q else p
def remR : Nat -> List Int -> List Int -> List Int
 | 0, p, _ => p
 | n + 1, p, q => if q.length <= p.length then remR n (stepR p q) q else p
def Pm (l l' : List Int) : Prop := ∃ k, 0 < k /\ l' = sc k l
theorem rem_pm {q q' : List Int} (hq : Pm q q') (h1 : 1 <= q.length) (hl : q.getD (q.length - 1) 0 ≠ 0) : ∀ (n : Nat) (p p' : List Int), Pm p p' -> Pm (remP n p q) (remR n p' q')
 | 0, _, _, h => h
 | n + 1, p, p', h => by
  obtain ⟨c, hc, rfl⟩ := h
  obtain ⟨d, hd, rfl⟩ := hq
  simp only [remP, remR, sc_length]
  by_cases hle : q.length <= p.length
  ·rw [if_pos hle, if_pos hle]
   refine rem_pm ⟨d, hd, rfl⟩ h1 hl n _ _ ⟨_, ?_, step_sc hc hd h1 hle hl⟩
   have h2 := Int.mul_pos (Int.mul_pos hc hd) hd
   exact Int.mul_pos h2 (by omega)
  ·rw [if_neg hle, if_neg hle]
   exact ⟨c, hc, rfl⟩
theorem top_map_neg {l : List Int} (h : Top l) : Top (l.map fun x => -x) := by
 rcases h with rfl | ⟨ys, t, rfl, ht⟩
 ·exact .inl rfl
 ·exact .inr ⟨ys.map (fun x => -x), -t, by simp, by omega⟩
theorem top_last_ne {l : List Int} (h : Top l) (hne : l ≠ []) : l.getD (l.length - 1) 0 ≠ 0 := by
 rcases h with rfl | ⟨ys, t, rfl, ht⟩
 ·exact absurd rfl hne
 ·simp [List.getD_eq_getElem?_getD, ht]
theorem stepP_top {p q : List Int} : Top (stepP p q) := trim_top _
theorem remP_top {q : List Int} : ∀ (n : Nat) {p : List Int}, Top p -> Top (remP n p q)
 | 0, _, h => h
 | n + 1, p, h => by
  simp only [remP]
  by_cases hle : q.length <= p.length
  ·rw [if_pos hle]; exact remP_top n stepP_top
  ·rw [if_neg hle]; exact h
theorem remP_len {q : List Int} (hq : 1 <= q.length) : ∀ (n : Nat) {p : List Int}, p.length <= n -> (remP n p q).length < q.length
 | 0, p, h => by
  simp only [remP]; omega
 | n + 1, p, h => by
  simp only [remP]
  by_cases hle : q.length <= p.length
  ·rw [if_pos hle]
   have := stepP_len (p := p) (q := q) (by omega)
   exact remP_len hq n (by omega)
  ·rw [if_neg hle]; omega
theorem Pm.neg {l l' : List Int} (h : Pm l l') : Pm (l.map fun x => -x) (l'.map fun x => -x) := by
 obtain ⟨k, hk, rfl⟩ := h
 exact ⟨k, hk, sc_neg⟩
theorem Pm.len {l l' : List Int} (h : Pm l l') : l'.length = l.length := by
 obtain ⟨k, hk, rfl⟩ := h
 exact sc_length
theorem Pm.refl (l : List Int) : Pm l l := ⟨1, by decide, by simp [sc]⟩
def chP : Nat -> List Int -> List Int -> List (List Int)
 | 0, p, q => [p, q]
 | n + 1, p, q => match remP p.length p q with
  | [] => [p, q]
  | r :: rs => p :: chP n q ((r :: rs).map fun x => -x)
def chR : Nat -> List Int -> List Int -> List (List Int)
 | 0, p, q => [p, q]
 | n + 1, p, q => match remR p.length p q with
  | [] => [p, q]
  | r :: rs => p :: chR n q ((r :: rs).map fun x => -x)
inductive Pms : List (List Int) -> List (List Int) -> Prop
 | nil : Pms [] []
 | cons {l l' ls ls'} : Pm l l' -> Pms ls ls' -> Pms (l :: ls) (l' :: ls')
theorem ch_pm : ∀ (n : Nat) {p p' q q' : List Int}, Pm p p' -> Pm q q' -> Top p -> Top q -> q ≠ [] -> Pms (chP n p q) (chR n p' q')
 | 0, _, _, _, _, hp, hq, _, _, _ => .cons hp (.cons hq .nil)
 | n + 1, p, p', q, q', hp, hq, tp, tq, hne => by
  have h1 : 1 <= q.length := by cases q with
   | nil => exact absurd rfl hne
   | cons x xs => simp
  have hr := rem_pm hq h1 (top_last_ne tq hne) p.length p p' hp
  have ht := remP_top (q := q) p.length tp
  simp only [chP, chR]
  rw [hp.len]
  generalize remP p.length p q = r at hr ht
  generalize remR p.length p' q' = r' at hr
  have hl := hr.len
  cases r with
  | nil => cases r' with
   | nil => exact .cons hp (.cons hq .nil)
   | cons y ys => simp at hl
  | cons x xs => cases r' with
   | nil => simp at hl
   | cons y ys => exact .cons hp (ch_pm n hq hr.neg tq (top_map_neg ht) (by simp))
def vS : List Int -> Int -> Int -> Int × Int
 | [], _, _ => (0, 1)
 | c :: cs, a, b => ((vS cs a b).1 * a + c * (vS cs a b).2, (vS cs a b).2 * b)
theorem vS_sc {k a b : Int} : ∀ l : List Int, vS (sc k l) a b = (k * (vS l a b).1, (vS l a b).2)
 | [] => by simp [sc, vS]
 | c :: cs => by
  have e : sc k (c :: cs) = k * c :: sc k cs := rfl
  rw [e]
  simp only [vS, vS_sc cs]
  rw [Int.mul_add, Int.mul_assoc, Int.mul_assoc]
def sgs (a b : Int) (ls : List (List Int)) : List Int := ls.map fun l => Int.sign (vS l a b).1
theorem sgs_eq {a b : Int} {ls ls' : List (List Int)} (h : Pms ls ls') : sgs a b ls' = sgs a b ls := by
 induction h with
 | nil => rfl
 | cons h _ ih =>
  obtain ⟨k, hk, rfl⟩ := h
  simp only [sgs, List.map_cons] at ih ⊢
  rw [ih, vS_sc, sign_pos_mul hk]
theorem sgs_small {a b : Int} {ls : List (List Int)} : ∀ s ∈ sgs a b ls, s = -1 ∨ s = 0 ∨ s = 1 := by
 intro s hs
 obtain ⟨l, _, rfl⟩ := List.mem_map.1 hs
 generalize (vS l a b).1 = x
 rcases Int.lt_trichotomy x 0 with h | h | h
 ·exact .inl (Int.sign_eq_neg_one_of_neg h)
 ·subst h; exact .inr (.inl rfl)
 ·exact .inr (.inr (Int.sign_eq_one_of_pos h))
def varP : List Int -> Int -> Int
 | [], _ => 0
 | s :: ss, b => (if s * b < 0 then 1 else 0) + varP ss (if s = 0 then b else s)
def varR : List Int -> Int -> Int
 | [], _ => 0
 | s :: ss, b => (if s = 0 then 0 else if b = 0 then 0 else if s = b then 0 else 1) + varR ss (if s = 0 then b else s)
theorem var_eq : ∀ (ss : List Int) (b : Int), (∀ s ∈ ss, s = -1 ∨ s = 0 ∨ s = 1) -> (b = -1 ∨ b = 0 ∨ b = 1) -> varP ss b = varR ss b
 | [], _, _, _ => rfl
 | s :: ss, b, h, hb => by
  have hs := h s (by simp)
  simp only [varP, varR]
  rw [var_eq ss _ (fun x hx => h x (by simp [hx])) (by split <;> assumption)]
  congr 1
  rcases hs with rfl | rfl | rfl <;> rcases hb with rfl | rfl | rfl <;> rfl
theorem counts {n : Nat} {p q : List Int} {a b : Int} (tp : Top p) (tq : Top q) (hq : q ≠ []) : varP (sgs a b (chP n p q)) 0 = varR (sgs a b (chR n p q)) 0 := by
 rw [sgs_eq (ch_pm n (Pm.refl p) (Pm.refl q) tp tq hq)]
 exact var_eq _ _ sgs_small (.inr (.inl rfl))
end Go.PI

open Go.Proofs
namespace Go.PI
open IM
set_option maxRecDepth 10000
set_option maxHeartbeats 1000000
def pIs (xs : List Int) : PV := .lst xs.length (xs.map pn)
def pI (X : Int) : PV := pIs (digits X)
def pR (L : List Int) : PV := .lst L.length (L.map pI)
def pC (Ls : List (List Int)) : PV := .lst Ls.length (Ls.map pR)
theorem ints_rel {H : Heap} {W : Nat -> Prop} : ∀ {xs : List Int} {l : List AV}, All2 (RelC H W) (xs.map pn) l -> l = ints xs
 | [], _, h => by cases h; rfl
 | x :: xs, _, h => by
  cases h with
  | cons h1 h2 =>
   cases h1
   rw [ints_rel h2]
   rfl
theorem rel_ints {H : Heap} {W : Nat -> Prop} : ∀ (xs : List Int), All2 (RelC H W) (xs.map pn) (ints xs)
 | [] => .nil
 | x :: xs => .cons (.int _ _) (rel_ints xs)
theorem sl_rel {H : Heap} {W : Nat -> Prop} {xs : List Int} {a : AV} (h : RelC H W (pIs xs) a) : Sl H a xs /\ Cp a := by
 have key : ∀ {n : Nat} {cs : List PV}, RelC H W (.lst n cs) a -> n = xs.length -> cs = xs.map pn -> Sl H a xs /\ Cp a := by
  intro n cs h hn hc
  cases h with
  | lnil => exact ⟨List.eq_nil_of_length_eq_zero hn.symm, trivial⟩
  | lsle => exact ⟨List.eq_nil_of_length_eq_zero hn.symm, trivial⟩
  | sl h1 h2 h3 h4 h5 =>
   subst hc
   rw [List.length_map] at h3 h5
   subst hn
   exact ⟨⟨rfl, _, _, _, h2, h3, ints_rel h5⟩, h4⟩
  | slu h1 h2 h3 h4 h5 =>
   subst hc
   rw [List.length_map] at h3 h4 h5
   subst hn
   refine ⟨⟨?_, rfl, _, _, _, h2, h3, ints_rel h5⟩, trivial⟩
   rcases Nat.eq_zero_or_pos xs.length with h0 | h0
   ·exact h4.2 h0
   ·have := h4.1
    rename_i e _ _ _
    have h6 : xs.length * e = xs.length * 1 := by omega
    exact Nat.eq_of_mul_eq_mul_left h0 h6
 exact key h rfl rfl
theorem rel_mine {H H' : Heap} {W : Nat -> Prop} {xs : List Int} {a : AV} (hw : ∀ b, W b -> b < H.n) (h : Mine H H.n a xs H') : RelC H' W (pIs xs) a := by
 obtain ⟨h1, h2, b, zs, ⟨h3, h4, h5⟩, h6, h7⟩ := h
 have hW : ¬ W b := fun h => by have := hw b h; omega
 have hb : 0 + (xs.map pn).length <= (ints zs).length := by simp [ints_length]; exact h4
 have hr : All2 (RelC H' W) (xs.map pn) (((ints zs).drop 0).take (xs.map pn).length) := by
  rw [List.drop_zero, List.length_map, ints_take, h6]
  exact rel_ints xs
 rcases h5 with ⟨c, rfl, h8, h9⟩ | rfl
 ·exact .sl hW h3 hb h8 hr
 ·exact .slu hW h3 hb ⟨by simp, fun _ => rfl⟩ hr
theorem mine_kp {H H' : Heap} {xs : List Int} {a : AV} {c : Nat} (h : Mine H H.n a xs H') (hc : H'.n <= H.n + c) : KpH H H' c := ⟨h.n, hc, fun A hA => h.keep A hA (by omega)⟩
theorem rel_keep {H H' : Heap} {W : Nat -> Prop} {p : PV} {a : AV} {c : Nat} (h : RelC H W p a) (k : KpH H H' c) : RelC H' W p a := h.mono (fun A hA _ => k.2.2 A hA) (fun _ _ h => h)
theorem KpH.refl (H : Heap) (c : Nat) : KpH H H c := ⟨Nat.le_refl _, by omega, fun _ _ => rfl⟩
theorem kp_of {H H' : Heap} {c : Nat} (k : Kp H H' c) : KpH H H' c := ⟨k.n, k.m, k.get⟩
variable (S : FuncId -> Option (List AV -> Heap -> Option (AV × Heap)))
theorem sign_ct (h : S 125 = none) {X : Int} (hl : (digits X).length <= 1000000) : Ct (ctx.plus S) 125 [pI X] 0 fun r => r = pn (Int.sign X) := by
 intro H W avs hw hr hn
 cases hr with
 | cons h1 hr =>
  cases hr
  refine (sign_run S h (by omega) (sl_rel h1).1).mono ?_
  rintro _ _ ⟨rfl, rfl⟩
  have hs : sgnL (digits X) = Int.sign X := by
   have hv := val_digits X
   rcases sgn_val (nrm_digits X) with ⟨a, b, c⟩ | ⟨a, b, c, -⟩ | ⟨a, b, c, -⟩
   ·rw [hv] at c; rw [a, c]; rfl
   ·rw [hv] at c; rw [a, Int.sign_eq_one_of_pos c]
   ·rw [hv] at c; rw [a, Int.sign_eq_neg_one_of_neg c]
  rw [hs]
  exact ⟨_, rfl, .int _ _, KpH.refl _ _⟩
theorem of_ct (hS : Old S) (h : S 26 = none) {n : Int} (hn : In64 n) : Ct (ctx.plus S) 26 [pn n] 12 fun r => r = pI n := by
 intro H W avs hw hr hl
 cases hr with
 | cons h1 hr =>
  cases hr
  cases h1
  refine (of_run2 S hS h hl hn).mono ?_
  rintro r H' ⟨hM, hm⟩
  exact ⟨_, rfl, rel_mine hw hM, mine_kp hM (by omega)⟩
theorem plus_ct (hS : Old S) (h : S 114 = none) {X Y f : Int} (lx : (digits X).length <= 1000000) (ly : (digits Y).length <= 1000000) (hf : -100000000 <= f /\ f <= 100000000) :
  Ct (ctx.plus S) 114 [pI X, pn f, pI Y] 20 fun r => r = pI (X + f * Y) := by
 intro H W avs hw hr hl
 cases hr with
 | cons h1 hr => cases hr with
  | cons h2 hr => cases hr with
   | cons h3 hr =>
    cases hr
    cases h2
    refine (plus_run2 S hS h hl (sl_rel h1).1 (sl_rel h3).1 lx ly (nrm_digits X).sml' (nrm_digits Y).sml' hf).mono ?_
    rintro r H' ⟨hM, hm⟩
    rw [val_digits, val_digits] at hM
    exact ⟨_, rfl, rel_mine hw hM, mine_kp hM (by omega)⟩
theorem prod_ct (hS : Old S) (h : S 116 = none) {X Y : Int} (lx : (digits X).length <= 511) (ly : (digits Y).length <= 1000000) :
  Ct (ctx.plus S) 116 [pI X, pI Y] 20 fun r => r = pI (X * Y) := by
 intro H W avs hw hr hl
 cases hr with
 | cons h1 hr => cases hr with
  | cons h2 hr =>
   cases hr
   refine (product_run2 S hS h hl (sl_rel h1).1 (sl_rel h2).1 lx ly (nrm_digits X).sml' (nrm_digits Y).sml').mono ?_
   rintro r H' ⟨hM, hm⟩
   rw [val_digits, val_digits] at hM
   split at hM
   ·rename_i hz
    obtain ⟨rfl, rfl⟩ := hM
    have e : X * Y = 0 := by
     rcases hz with h | h
     ·rw [digits_nil.1 h, Int.zero_mul]
     ·rw [digits_nil.1 h, Int.mul_zero]
    refine ⟨_, rfl, ?_, KpH.refl _ _⟩
    rw [e]
    exact .lnil
   ·exact ⟨_, rfl, rel_mine hw hM, mine_kp hM (by omega)⟩
theorem neg_ct (h : S 127 = none) {X : Int} (lx : (digits X).length <= 1000000) : Ct (ctx.plus S) 127 [pI X] 8 fun r => r = pI (-X) := by
 intro H W avs hw hr hl
 cases hr with
 | cons h1 hr =>
  cases hr
  have hs := (nrm_digits X).sml'
  refine (negative_run2 S h (by omega) (sl_rel h1).1 lx fun e he => by have := hs e he; unfold In64; omega).mono ?_
  rintro r H' ⟨hM, hm⟩
  unfold negL at hM
  rw [negd] at hM
  exact ⟨_, rfl, rel_mine hw hM, mine_kp hM (by omega)⟩
theorem size_ct (h186 : S 186 = none) (h125 : S 125 = none) (h127 : S 127 = none) {X : Int} (lx : (digits X).length <= 1000000) : Ct (ctx.plus S) 186 [pI X] 8 fun r => r = pI X.natAbs := by
 intro H W avs hw hr hl
 cases hr with
 | cons h1 hr =>
  cases hr
  have hs := (nrm_digits X).sml'
  have hv := val_digits X
  refine (size_run2 S h186 h125 h127 (by omega) (sl_rel h1).1 lx fun e he => by have := hs e he; unfold In64; omega).mono ?_
  rintro r H' ⟨hM, hm⟩
  by_cases hn : sgnL (digits X) < 0
  ·rw [if_pos hn] at hM
   have hX : X < 0 := by rcases sgn_val (nrm_digits X) with ⟨a, -, c⟩ | ⟨a, -, c, -⟩ | ⟨a, -, c, -⟩ <;> omega
   unfold negL at hM
   rw [negd, show -X = (X.natAbs : Int) by omega] at hM
   exact ⟨_, rfl, rel_mine hw hM, mine_kp hM (by omega)⟩
  ·rw [if_neg hn] at hM
   obtain ⟨rfl, rfl⟩ := hM
   have hX : 0 <= X := by rcases sgn_val (nrm_digits X) with ⟨a, -, c⟩ | ⟨a, -, c, -⟩ | ⟨a, -, c, -⟩ <;> omega
   refine ⟨_, rfl, ?_, KpH.refl _ _⟩
   rw [show (X.natAbs : Int) = X by omega]
   exact h1
/-! ### The reference -/
structure Rw (xs : List Int) (X : Int) : Prop where
 in64 : ∀ e ∈ xs, In64 e
 len : xs.length <= 200
 val : val xs = X
 dl : (digits X).length <= 200
theorem Rw.of {X : Int} (h : (digits X).length <= 200) : Rw (digits X) X := ⟨fun e he => by have := (nrm_digits X).sml' e he; unfold In64; omega, h, val_digits X, h⟩
theorem Rw.one {c : Int} (h : -100000000 < c /\ c < 100000000) : Rw [c] c := by
 have p1 : pw 1 = 100000000 := by decide
 have hl : (digits c).length <= 1 := len_of (k := 1) (by omega)
 refine ⟨fun e he => ?_, by simp, by simp [IM.val], by omega⟩
 simp at he
 subst he
 unfold In64; omega
theorem svb_rel {H : Heap} {W : Nat -> Prop} {xs : List Int} {X : Int} {a : AV} (h : RelC H W (pIs xs) a) (hX : Rw xs X) : SVB H a xs X :=
 ⟨(sl_rel h).1, hX.in64, hX.len, hX.val, hX.dl⟩
theorem radd_ct (hR : OldR S) {xs ys : List Int} {X Y : Int} (hx : Rw xs X) (hy : Rw ys Y) : Ct (ctx.plus S) 28 [pIs xs, pIs ys] 100000 fun r => r = pI (X + Y) := by
 intro H W avs hw hr hl
 cases hr with
 | cons h1 hr => cases hr with
  | cons h2 hr =>
   cases hr
   refine (radd_runB S hR hl (svb_rel h1 hx) (svb_rel h2 hy)).mono ?_
   rintro r H' ⟨hM, hm⟩
   exact ⟨_, rfl, rel_mine hw hM, mine_kp hM (by omega)⟩
theorem rsub_ct (hR : OldR S) {xs ys : List Int} {X Y : Int} (hx : Rw xs X) (hy : Rw ys Y) : Ct (ctx.plus S) 30 [pIs xs, pIs ys] 200000 fun r => r = pI (X - Y) := by
 intro H W avs hw hr hl
 cases hr with
 | cons h1 hr => cases hr with
  | cons h2 hr =>
   cases hr
   refine (rsub_runB S hR hl (svb_rel h1 hx) (svb_rel h2 hy)).mono ?_
   rintro r H' ⟨hM, hm⟩
   exact ⟨_, rfl, rel_mine hw hM, mine_kp hM (by omega)⟩
theorem rneg_ct (hR : OldR S) {xs : List Int} {X : Int} (hx : Rw xs X) : Ct (ctx.plus S) 115 [pIs xs] 100000 fun r => r = pI (-X) := by
 intro H W avs hw hr hl
 cases hr with
 | cons h1 hr =>
  cases hr
  refine (rneg_runB S hR hl (svb_rel h1 hx)).mono ?_
  rintro r H' ⟨hM, hm⟩
  exact ⟨_, rfl, rel_mine hw hM, mine_kp hM (by omega)⟩
theorem rmul_ct (hR : OldR S) {xs ys : List Int} {X Y : Int} (hx : Rw xs X) (hy : Rw ys Y) (lxy : (digits X).length + (digits Y).length <= 200) : Ct (ctx.plus S) 32 [pIs xs, pIs ys] 3000000 fun r => r = pI (X * Y) := by
 intro H W avs hw hr hl
 cases hr with
 | cons h1 hr => cases hr with
  | cons h2 hr =>
   cases hr
   refine (rmul_runB S hR hl (svb_rel h1 hx) (svb_rel h2 hy) lxy).mono ?_
   rintro r H' ⟨hM, hm⟩
   exact ⟨_, rfl, rel_mine hw hM, mine_kp hM (by omega)⟩
theorem cmpI_sign (X : Int) : cmpI X 0 = Int.sign X := by
 unfold cmpI
 rcases Int.lt_trichotomy X 0 with h | h | h
 ·rw [if_pos h, Int.sign_eq_neg_one_of_neg h]
 ·subst h; rfl
 ·rw [if_neg (by omega), if_pos h, Int.sign_eq_one_of_pos h]
theorem rsign_ct (hR : OldR S) {xs : List Int} {X : Int} (hx : Rw xs X) : Ct (ctx.plus S) 117 [pIs xs] 100000 fun r => r = pn (Int.sign X) := by
 intro H W avs hw hr hl
 cases hr with
 | cons h1 hr =>
  cases hr
  have h3 := hx.len
  have h4 := hx.dl
  refine (rsign_runB S hR hl (sl_rel h1).1 hx.in64 (by omega) hx.val (by omega)).mono ?_
  rintro _ H' ⟨rfl, k⟩
  rw [cmpI_sign]
  have := k.m
  exact ⟨_, rfl, .int _ _, kp_of (k.le (by omega))⟩
theorem at_map {α : Type} {f : α -> PV} {L : List α} {i : Nat} {x : α} (h : L[i]? = some x) : (L.map f)[i]? = some (f x) := by simp [h]
theorem ld {cs : List PV} {j q : Nat} {v : PV} (h : cs[j]? = some v) (hq : q = j) : (cs.drop q)[0]? = some v := by
 subst hq
 rw [List.getElem?_drop, Nat.add_zero]
 exact h
end Go.PI

