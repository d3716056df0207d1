/- Own work of the verifier: CoOld CoFm CoF CoG. -/
import Derived.Test.YtdflpkkgjppmgaaGreatCfAV
import Derived.Test.YtdflpkkgjppmgaaGreatCfBL
import Derived.Test.YtdflpkkgjppmgaaGreatCfAU
import Derived.Test.YtdflpkkgjppmgaaGreatCfAA
import Derived.Test.YtdflpkkgjppmgaaGreatCfBI
import Derived.Test.YtdflpkkgjppmgaaGreatCfBJ
set_option linter.all false
set_option exponentiation.threshold 3000
set_option linter.deprecated false
/- What is asked of a table of summaries. -/
namespace Go.PI
def OldO (S : FuncId → Option (List AV → Heap → Option (AV × Heap))) : Prop := ∀ f, f ≠ 12 → S f = none
end Go.PI
/- SUMS OF DIVISORS, and how the squares of primes are divided out. -/
namespace Go.PI
def sg (n : Nat) : Nat → Nat
  | 0 => 0
  | d + 1 => sg n d + if d ≠ 0 ∧ n % d = 0 then d else 0
theorem sg_le (n d : Nat) (hn : 0 < n) : sg n d ≤ d * n := by
  induction d with
  | zero => simp [sg]
  | succ d ih =>
    unfold sg
    have : (if d ≠ 0 ∧ n % d = 0 then d else 0) ≤ n := by
      split
      · rename_i h; exact Nat.le_of_dvd hn (Nat.dvd_of_mod_eq_zero h.2)
      · omega
    rw [Nat.succ_mul]
    omega
def NoDiv (q d : Nat) : Prop := ∀ x, 2 ≤ x → x < d → ¬ x ∣ q
def Pri (q : Nat) : Prop := NoDiv q q
open Classical in
/-- what is left of n n when the primes below q are done -/
noncomputable def rr (n : Nat) : Nat → Nat
  | 0 => n * n
  | q + 1 => if 2 ≤ q ∧ q ∣ n ∧ Pri q then rr n q / (q * q) * (q * q - 1) else rr n q
structure SqI (n q rest prod : Nat) : Prop where
  pos : 0 < rest
  nd : NoDiv rest q
  dvd : rest ∣ n
  pr : ∀ p, 2 ≤ p → Pri p → q ≤ p → p ∣ n → p ∣ rest
  sq : rest * rest ∣ prod
  eq : prod = rr n q
theorem SqI.start {n : Nat} (h : 2 ≤ n) : SqI n 2 n (n * n) := ⟨by omega, fun x h1 h2 => by omega, Nat.dvd_refl _, fun p _ _ _ h => h, Nat.dvd_refl _, by simp [rr]⟩
theorem SqI.skip {n q rest prod : Nat} (I : SqI n q rest prod) (h2 : 2 ≤ q) (h : ¬ q ∣ rest) : SqI n (q + 1) rest prod := by
  refine ⟨I.pos, fun x h1 h2 => ?_, I.dvd, fun p a b c d => I.pr p a b (by omega) d, I.sq, ?_⟩
  · by_cases e : x = q
    · subst e; exact h
    · exact I.nd x h1 (by omega)
  · unfold rr
    rw [if_neg (fun hh => h (I.pr q h2 hh.2.2 (Nat.le_refl _) hh.2.1))]
    exact I.eq
theorem SqI.prime {n q rest prod : Nat} (I : SqI n q rest prod) (h : q ∣ rest) : Pri q := fun x h1 h2 hx => I.nd x h1 h2 (Nat.dvd_trans hx h)
structure SqJ (n q rest0 prod rest : Nat) : Prop where
  pos : 0 < rest
  dvd : rest ∣ rest0
  m : rest = rest0 ∨ rest ∣ rest0 / q
  pr : ∀ p, 2 ≤ p → Pri p → q + 1 ≤ p → p ∣ n → p ∣ rest
theorem SqJ.start {n q rest prod : Nat} (I : SqI n q rest prod) : SqJ n q rest prod rest := ⟨I.pos, Nat.dvd_refl _, .inl rfl, fun p a b c d => I.pr p a b (by omega) d⟩
theorem SqJ.next {n q rest0 prod rest : Nat} (h2 : 2 ≤ q) (hq : Pri q) (J : SqJ n q rest0 prod rest) (h : q ∣ rest) : SqJ n q rest0 prod (rest / q) ∧ rest / q < rest := by
  obtain ⟨m, rfl⟩ := h
  have hm : 0 < m := Nat.pos_of_ne_zero fun e => by subst e; have := J.pos; simp at this
  have e1 : q * m / q = m := Nat.mul_div_cancel_left m (by omega)
  rw [e1]
  refine ⟨⟨hm, Nat.dvd_trans ⟨q, Nat.mul_comm _ _⟩ J.dvd, .inr ?_, fun p a b c d => ?_⟩, ?_⟩
  · rcases J.m with h | h
    · rw [← h, e1]; exact Nat.dvd_refl _
    · exact Nat.dvd_trans ⟨q, Nat.mul_comm _ _⟩ h
  · have hp := J.pr p a b c d
    refine Nat.Coprime.dvd_of_dvd_mul_left ?_ hp
    show Nat.gcd p q = 1
    have g1 := Nat.gcd_dvd_left p q
    have g2 := Nat.gcd_dvd_right p q
    have g0 : 0 < Nat.gcd p q := Nat.gcd_pos_of_pos_left _ (by omega)
    rcases Nat.lt_or_ge (Nat.gcd p q) 2 with hl | hl
    · omega
    · exfalso
      have l2 := Nat.le_of_dvd (by omega) g2
      exact b _ hl (by omega) g1
  · calc m < 2 * m := by omega
      _ ≤ q * m := Nat.mul_le_mul_right _ h2
theorem SqJ.done {n q rest0 prod rest : Nat} (h2 : 2 ≤ q) (I : SqI n q rest0 prod) (hd : q ∣ rest0) (J : SqJ n q rest0 prod rest) (h : ¬ q ∣ rest) : SqI n (q + 1) rest (prod / (q * q) * (q * q - 1)) := by
  have hm : rest ∣ rest0 / q := by
    rcases J.m with e | e
    · subst e; exact absurd hd h
    · exact e
  refine ⟨J.pos, fun x h1 h2 hx => ?_, Nat.dvd_trans J.dvd I.dvd, J.pr, ?_, ?_⟩
  · by_cases e : x = q
    · subst e; exact h hx
    · exact I.nd x h1 (by omega) (Nat.dvd_trans hx J.dvd)
  · obtain ⟨m, rfl⟩ := hd
    rw [Nat.mul_div_cancel_left m (by omega)] at hm
    obtain ⟨t, ht⟩ := I.sq
    rw [ht, show q * m * (q * m) * t = (q * q) * (m * m * t) by grind, Nat.mul_div_cancel_left _ (Nat.mul_pos (by omega) (by omega))]
    exact Nat.dvd_trans (Nat.mul_dvd_mul hm hm) ⟨t * (q * q - 1), by rw [Nat.mul_assoc]⟩
  · unfold rr
    rw [if_pos ⟨h2, Nat.dvd_trans hd I.dvd, I.prime hd⟩, I.eq]
theorem SqI.one {n q rest prod : Nat} (I : SqI n q rest prod) (h : rest < q) : rest = 1 := by
  rcases Nat.lt_or_ge rest 2 with h1 | h1
  · have := I.pos; omega
  · exact absurd (Nat.dvd_refl _) (I.nd rest h1 h)
theorem SqI.stay {n q rest prod : Nat} (I : SqI n q rest prod) (h : rest < q) (h2 : 2 ≤ q) : ∀ k, rr n (q + k) = prod
  | 0 => I.eq.symm
  | k + 1 => by
    have ih := I.stay h h2 k
    show rr n (q + k + 1) = prod
    unfold rr
    rw [if_neg (fun hh => ?_), ih]
    have := I.pr (q + k) hh.1 hh.2.2 (by omega) hh.2.1
    rw [I.one h] at this
    have := Nat.le_of_dvd (by omega) this
    omega
theorem sq_ex {n : Nat} (h : 2 ≤ n) : ∀ k, ∃ rest, SqI n (2 + k) rest (rr n (2 + k))
  | 0 => ⟨n, by have := SqI.start h; rwa [this.eq] at this⟩
  | k + 1 => by
    obtain ⟨rest, I⟩ := sq_ex h k
    by_cases hd : (2 + k) ∣ rest
    · have key : ∀ m r, r ≤ m → SqJ n (2 + k) rest (rr n (2 + k)) r → ∃ r', SqJ n (2 + k) rest (rr n (2 + k)) r' ∧ ¬ (2 + k) ∣ r' := by
        intro m
        induction m with
        | zero => intro r hr J; have := J.pos; omega
        | succ m ih =>
          intro r hr J
          by_cases h3 : (2 + k) ∣ r
          · obtain ⟨J', hl⟩ := J.next (by omega) (I.prime hd) h3
            exact ih _ (by omega) J'
          · exact ⟨r, J, h3⟩
      obtain ⟨r', J', h3⟩ := key rest rest (Nat.le_refl _) (SqJ.start I)
      have I' := J'.done (by omega) I hd h3
      have e := I'.eq
      rw [e] at I'
      exact ⟨r', I'⟩
    · have I' := I.skip (by omega) hd
      have e := I'.eq
      rw [e] at I'
      exact ⟨rest, I'⟩
theorem rr_le {n : Nat} (h : 1 ≤ n) : ∀ q, rr n q ≤ n * n
  | 0 => Nat.le_refl _
  | q + 1 => by
    unfold rr
    split
    · rename_i hh
      refine Nat.le_trans ?_ (rr_le h q)
      have h1 : rr n q / (q * q) * (q * q - 1) ≤ rr n q / (q * q) * (q * q) := Nat.mul_le_mul_left _ (by omega)
      exact Nat.le_trans h1 (Nat.div_mul_le_self _ _)
    · exact rr_le h q
theorem sq_dvd {n q : Nat} (h : 2 ≤ n) (h2 : 2 ≤ q) (hq : q ∣ n) (hp : Pri q) : q * q ∣ rr n q := by
  obtain ⟨rest, I⟩ := sq_ex h (q - 2)
  rw [show 2 + (q - 2) = q by omega] at I
  have := I.pr q h2 hp (Nat.le_refl _) hq
  exact Nat.dvd_trans (Nat.mul_dvd_mul this this) I.sq
open Classical in
theorem rr_step {n q c : Nat} (h : 2 ≤ n) (h2 : 2 ≤ q) (hq : q ∣ n) (hp : Pri q) : c * rr n q / (q * q) * (q * q - 1) = c * rr n (q + 1) := by
  have hd := sq_dvd h h2 hq hp
  obtain ⟨t, ht⟩ := hd
  have hpos : 0 < q * q := Nat.mul_pos (by omega) (by omega)
  have e : rr n (q + 1) = rr n q / (q * q) * (q * q - 1) := by
    show (if 2 ≤ q ∧ q ∣ n ∧ Pri q then rr n q / (q * q) * (q * q - 1) else rr n q) = _
    rw [if_pos ⟨h2, hq, hp⟩]
  rw [e, ht, show c * (q * q * t) = q * q * (c * t) by grind, Nat.mul_div_cancel_left _ hpos, Nat.mul_div_cancel_left _ hpos]
  grind
open Classical in
theorem rr_same {n q : Nat} (h : ¬ (q ∣ n ∧ Pri q)) : rr n (q + 1) = rr n q := by
  show (if 2 ≤ q ∧ q ∣ n ∧ Pri q then rr n q / (q * q) * (q * q - 1) else rr n q) = _
  rw [if_neg (fun hh => h hh.2)]
end Go.PI
/- SMALL FUNCTIONS of package count and of its reference: within, sums of divisors, squares of primes. -/
open Go.Proofs
namespace Go.PI
open IM
set_option maxRecDepth 20000
set_option maxHeartbeats 4000000
variable (S : FuncId → Option (List AV → Heap → Option (AV × Heap)))
theorem old_of (hS : OldO S) : Old S := by constructor <;> exact hS _ (by decide)
theorem oldI_of (hS : OldO S) : OldI S := ⟨old_of S hS, hS _ (by decide), hS _ (by decide), hS _ (by decide), hS _ (by decide), hS _ (by decide), hS _ (by decide), hS _ (by decide), hS _ (by decide), hS _ (by decide), hS _ (by decide), hS _ (by decide), hS _ (by decide), hS _ (by decide), hS _ (by decide), hS _ (by decide), hS _ (by decide), hS _ (by decide), hS _ (by decide), hS _ (by decide), hS _ (by decide), hS _ (by decide), hS _ (by decide), hS _ (by decide), hS _ (by decide)⟩
theorem oldR_of (hS : OldO S) : OldR S := by constructor <;> exact hS _ (by decide)
theorem fn57 : ctx.fn 57 = some c57 := by kernel_rfl
theorem fn21 : ctx.fn 21 = some c21 := by kernel_rfl
theorem within_ct (hS : OldO S) {n a b : Int} : Ct (ctx.plus S) 57 [pn n, pn a, pn b] 0 fun r => r = .bool (decide (a ≤ n ∧ n ≤ b)) := by
  refine ct_of (hS 57 (by decide)) fn57 ?_
  refine ⟨fun h1 => ?_, fun h1 => ?_⟩
  · refine ⟨fun h2 => ?_, fun h2 => ?_⟩
    · exact endq rfl (by rw [decide_eq_true ⟨by omega, by omega⟩])
    · exact endq rfl (by rw [decide_eq_false (by omega)])
  · exact endq rfl (by rw [decide_eq_false (by omega)])
theorem rwithin_ct (hS : OldO S) {n a b : Int} : Ct (ctx.plus S) 21 [pn n, pn a, pn b] 0 fun r => r = .bool (decide (a ≤ n ∧ n ≤ b)) := by
  refine ct_of (hS 21 (by decide)) fn21 ?_
  refine ⟨fun h1 => ?_, fun h1 => ?_⟩
  · refine ⟨fun h2 => ?_, fun h2 => ?_⟩
    · exact endq rfl (by rw [decide_eq_true ⟨by omega, by omega⟩])
    · exact endq rfl (by rw [decide_eq_false (by omega)])
  · exact endq rfl (by rw [decide_eq_false (by omega)])
theorem tmod_nat {a b : Nat} : (a : Int).tmod b = ((a % b : Nat) : Int) := by
  rw [Int.tmod_eq_emod_of_nonneg (by omega)]
  norm_cast
theorem tdiv_nat {a b : Nat} : (a : Int).tdiv b = ((a / b : Nat) : Int) := by
  rw [Int.tdiv_eq_ediv_of_nonneg (by omega)]
  norm_cast
theorem fn98 : ctx.fn 98 = some c98 := by kernel_rfl
theorem fn99 : ctx.fn 99 = some c99 := by kernel_rfl
theorem dsum_ct (hS : OldO S) {n : Nat} (h1 : 1 ≤ n) (h2 : n ≤ 1000) : Ct (ctx.plus S) 98 [pn n] 0 fun r => r = pn (sg n (n + 1)) := by
  refine ct_of (hS 98 (by decide)) fn98 ?_
  refine ⟨fun m s => ∃ (d : Nat) (T : List PV), s = ⟨T, [], 0⟩ ∧ Gt T 18 [(0, pn n), (3, pn (sg n d : Nat)), (4, pn d)] ∧ m = n + 1 - d ∧ 1 ≤ d ∧ d ≤ n + 1, ⟨_, ci ⟨1, _, rfl, ⟨rfl, rfl, rfl, rfl, trivial⟩, rfl, by omega, by omega⟩⟩, ?_⟩
  rintro m s ⟨d, T, rfl, hT, hm, hd1, hd2⟩
  obtain ⟨J, rfl⟩ := gt_open hT
  clear hT
  have hb := sg_le n d (by omega)
  have hb2 : d * n ≤ 1001 * 1000 := Nat.mul_le_mul (by omega) h2
  refine ⟨fun hle => ?_, fun hgt => ?_⟩
  · refine ⟨by omega, ?_⟩
    rw [tmod_nat]
    refine ⟨fun h0 => ?_, fun h0 => ?_⟩
    · refine ⟨⟨by omega, by omega⟩, ?_⟩
      refine ⟨⟨by omega, by omega⟩, ?_⟩
      refine ⟨_, ?_, ci ⟨d + 1, _, rfl, ⟨rfl, rfl, ?_, by show pn _ = pn _; norm_cast, trivial⟩, rfl, by omega, by omega⟩⟩
      · omega
      · show pn _ = pn _
        congr 1
        have : sg n (d + 1) = sg n d + d := by
          show sg n d + _ = _
          rw [if_pos ⟨by omega, by omega⟩]
        rw [this]
        norm_cast
    · refine ⟨⟨by omega, by omega⟩, ?_⟩
      refine ⟨_, ?_, ci ⟨d + 1, _, rfl, ⟨rfl, rfl, ?_, by show pn _ = pn _; norm_cast, trivial⟩, rfl, by omega, by omega⟩⟩
      · omega
      · show pn _ = pn _
        congr 1
        have : sg n (d + 1) = sg n d := by
          show sg n d + _ = _
          rw [if_neg (by omega)]
          omega
        rw [this]
  · have : d = n + 1 := by omega
    subst this
    exact endq rfl rfl
theorem rsigma_ct (hS : OldO S) {n : Nat} (h1 : 1 ≤ n) (h2 : n ≤ 1000) : Ct (ctx.plus S) 99 [pn n] 0 fun r => r = pn (sg n (n + 1)) := by
  refine ct_of (hS 99 (by decide)) fn99 ?_
  refine ⟨fun m s => ∃ (d : Nat) (T : List PV), s = ⟨T, [], 0⟩ ∧ Gt T 18 [(0, pn n), (3, pn (sg n d : Nat)), (4, pn d)] ∧ m = n + 1 - d ∧ 1 ≤ d ∧ d ≤ n + 1, ⟨_, ci ⟨1, _, rfl, ⟨rfl, rfl, rfl, rfl, trivial⟩, rfl, by omega, by omega⟩⟩, ?_⟩
  rintro m s ⟨d, T, rfl, hT, hm, hd1, hd2⟩
  obtain ⟨J, rfl⟩ := gt_open hT
  clear hT
  have hb := sg_le n d (by omega)
  have hb2 : d * n ≤ 1001 * 1000 := Nat.mul_le_mul (by omega) h2
  refine ⟨fun hle => ?_, fun hgt => ?_⟩
  · refine ⟨by omega, ?_⟩
    rw [tmod_nat]
    refine ⟨fun h0 => ?_, fun h0 => ?_⟩
    · refine ⟨⟨by omega, by omega⟩, ?_⟩
      refine ⟨⟨by omega, by omega⟩, ?_⟩
      refine ⟨_, ?_, ci ⟨d + 1, _, rfl, ⟨rfl, rfl, ?_, by show pn _ = pn _; norm_cast, trivial⟩, rfl, by omega, by omega⟩⟩
      · omega
      · show pn _ = pn _
        congr 1
        have : sg n (d + 1) = sg n d + d := by
          show sg n d + _ = _
          rw [if_pos ⟨by omega, by omega⟩]
        rw [this]
        norm_cast
    · refine ⟨⟨by omega, by omega⟩, ?_⟩
      refine ⟨_, ?_, ci ⟨d + 1, _, rfl, ⟨rfl, rfl, ?_, by show pn _ = pn _; norm_cast, trivial⟩, rfl, by omega, by omega⟩⟩
      · omega
      · show pn _ = pn _
        congr 1
        have : sg n (d + 1) = sg n d := by
          show sg n d + _ = _
          rw [if_neg (by omega)]
          omega
        rw [this]
  · have : d = n + 1 := by omega
    subst this
    exact endq rfl rfl
end Go.PI
/- LISTS COMPARED; integers in lowest terms. -/
open Go.Proofs
namespace Go.PI
open IM
set_option maxRecDepth 20000
set_option maxHeartbeats 4000000
variable (S : FuncId → Option (List AV → Heap → Option (AV × Heap)))
theorem xs_get {xs : List Int} {i : Nat} (h : i < xs.length) : ∃ e, xs[i]? = some e := ⟨xs[i], List.getElem?_eq_getElem _⟩
theorem fn19 : ctx.fn 19 = some c19 := by kernel_rfl
def Eqs (xs ys : List Int) (i : Nat) : Prop := xs.take i = ys.take i
theorem eqs_next {xs ys : List Int} {i : Nat} {a b : Int} (h : Eqs xs ys i) (hx : xs[i]? = some a) (hy : ys[i]? = some b) (he : a = b) : Eqs xs ys (i + 1) := by
  unfold Eqs at *
  rw [take_snoc hx, take_snoc hy, h, he]
theorem ints_ct (hS : OldO S) {xs ys : List Int} (hx : xs.length ≤ 1000000) (hy : ys.length ≤ 1000000) : Ct (ctx.plus S) 19 [pIs xs, pIs ys] 0 fun r => r = .bool (decide (xs = ys)) := by
  refine ct_of (hS 19 (by decide)) fn19 ?_
  refine ⟨fun hne => ?_, fun heq => ?_⟩
  · exact endq rfl (by rw [decide_eq_false (fun h => hne (by rw [h]))])
  have hle : xs.length = ys.length := by omega
  refine ⟨fun m s => ∃ (i : Nat) (T : List PV), s = ⟨T, [], 0⟩ ∧ Gt T 26 [(0, pIs xs), (1, pIs ys), (5, pn i)] ∧ m = xs.length - i ∧ i ≤ xs.length ∧ Hid (Eqs xs ys i), ⟨_, ci ⟨0, _, rfl, ⟨rfl, rfl, rfl, rfl, trivial⟩, rfl, Nat.zero_le _, ⟨rfl⟩⟩⟩, ?_⟩
  rintro _ s ⟨i, T, rfl, hT, rfl, hi, hn⟩
  obtain ⟨J, rfl⟩ := gt_open hT
  clear hT
  refine ⟨fun hlt => ?_, fun hge => ?_⟩
  · obtain ⟨a, ha⟩ := xs_get (xs := xs) (i := i) (by omega)
    obtain ⟨b, hb⟩ := xs_get (xs := ys) (i := i) (by omega)
    refine ⟨by kernel_rfl, ?_⟩
    refine ⟨⟨⟨by omega, by omega⟩, len_map_le (by omega)⟩, ?_⟩
    refine ⟨_, ld (at_map ha) (by show _ * 1 = i; omega), rfl, ?_⟩
    refine ⟨⟨⟨by omega, by omega⟩, len_map_le (by omega)⟩, ?_⟩
    refine ⟨_, ld (at_map hb) (by show _ * 1 = i; omega), rfl, ?_⟩
    refine ⟨fun hne => ?_, fun heq => ?_⟩
    · exact endq rfl (by rw [decide_eq_false (fun h => by rw [h, hb] at ha; cases ha; exact hne rfl)])
    · refine ⟨⟨by omega, by omega⟩, ?_⟩
      exact ⟨_, by omega, ci ⟨i + 1, _, rfl, ⟨rfl, rfl, rfl, rfl, trivial⟩, rfl, by omega, ⟨eqs_next hn.h ha hb (by omega)⟩⟩⟩
  · exact endq rfl (by rw [decide_eq_true (by have := hn.h; unfold Eqs at this; rwa [List.take_of_length_le (by omega), List.take_of_length_le (by omega)] at this)])
theorem dig_small {n : Int} (h : -10000000000000000 < n ∧ n < 10000000000000000) : (digits n).length ≤ 2 := by
  have p2 : pw 2 = 10000000000000000 := by decide
  exact len_of (k := 2) (by omega)
theorem normal_ct (hS : OldO S) {X : Int} (hl : (digits X).length ≤ 1000000) : Ct (ctx.plus S) 153 [pI X] 20 fun r => r = pI X := by
  intro H W avs hw hr hn
  cases hr with
  | cons h1 hr =>
    cases hr
    refine (normal_run2 S (old_of S hS) (hS 153 (by decide)) (hS 182 (by decide)) (hS 164 (by decide)) hn (sl_rel h1).1 hl (fun e he => by have := (nrm_digits X).sml' e he; unfold In64; omega)).mono ?_
    rintro r H' ⟨h3, h4⟩
    split at h3
    · obtain ⟨rfl, rfl⟩ := h3
      exact ⟨_, rfl, h1, Nat.le_refl _, by omega, fun _ _ => rfl⟩
    · rw [val_digits] at h3
      exact ⟨_, rfl, rel_mine hw h3, mine_kp h3 (by omega)⟩
theorem fn132 : ctx.fn 132 = some c132 := by kernel_rfl
theorem fn133 : ctx.fn 133 = some c133 := by kernel_rfl
theorem gcdP_ct (hS : OldO S) {X Y : Int} (lx : (digits X).length ≤ 400) (ly : (digits Y).length ≤ 400) (lg : (digits (Int.gcd X Y)).length ≤ 400) : Ct (ctx.plus S) 132 [pI X, pI Y] 6000000 fun r => r = pI (Int.gcd X Y) := by
  refine ct_of (hS 132 (by decide)) fn132 ?_
  refine callq rfl (normal_ct S hS (by omega)) (by omega) ?_
  rintro _ rfl
  refine callq rfl (normal_ct S hS (by omega)) (by omega) ?_
  rintro _ rfl
  refine callq rfl (gcd_ct S (oldI_of S hS) lx ly) (by omega) ?_
  rintro _ rfl
  refine callq rfl (clone_ct S (hS 164 (by decide)) (xs := digits (Int.gcd X Y)) (by omega)) (by omega) ?_
  rintro _ rfl
  exact endq rfl rfl
theorem divmodP_ct (hS : OldO S) {X Y : Int} (lx : (digits X).length ≤ 800) (ly : (digits Y).length ≤ 800) (hY : Y ≠ 0) : Ct (ctx.plus S) 133 [pI X, pI Y] 1000 fun r => r = .tup [pI (X / Y), pI (X % Y), pn 0] := by
  refine ct_of (hS 133 (by decide)) fn133 ?_
  refine callq rfl (normal_ct S hS (by omega)) (by omega) ?_
  rintro _ rfl
  refine callq rfl (normal_ct S hS (by omega)) (by omega) ?_
  rintro _ rfl
  refine ⟨fun h => ?_, fun _ => ?_⟩
  · have hz : digits Y = [] := List.eq_nil_of_length_eq_zero (by have h1 : ((digits Y).length : Int) = 0 := h; omega)
    exact absurd (by have := val_digits Y; rw [hz] at this; simpa [IM.val] using this.symm) hY
  refine callq rfl (divide_ct S (oldI_of S hS) lx ly hY) (by omega) ?_
  rintro _ rfl
  exact endsq rfl rfl
def pF (a b : Int) : PV := .agg [pI a, pI b]
theorem fn86 : ctx.fn 86 = some c86 := by kernel_rfl
theorem lowest_ct (hS : OldO S) {X Y : Int} (hX : -10000000000000000 < X ∧ X < 10000000000000000) (hY : 0 < Y ∧ Y < 10000000000000000) : Ct (ctx.plus S) 86 [pI X, pI Y] 6010000 fun r => r = pF (X / Int.gcd X Y) (Y / Int.gcd X Y) := by
  have hg : Int.gcd X Y ≠ 0 := fun h => by rw [Int.gcd_eq_zero_iff] at h; omega
  have hgl : (Int.gcd X Y : Int) ≤ Y := Int.le_of_dvd hY.1 (Int.gcd_dvd_right _ _)
  have lx := dig_small hX
  have ly := dig_small (n := Y) (by omega)
  have lg := dig_small (n := Int.gcd X Y) (by omega)
  refine ct_of (hS 86 (by decide)) fn86 ?_
  refine ⟨by omega, ?_⟩
  refine callq rfl (gcdP_ct S hS (by omega) (by omega) (by omega)) (by omega) ?_
  rintro _ rfl
  refine callq rfl (divmodP_ct S hS (by omega) (by omega) (by omega)) (by omega) ?_
  rintro _ rfl
  refine callq rfl (divmodP_ct S hS (by omega) (by omega) (by omega)) (by omega) ?_
  rintro _ rfl
  refine part2 fzL fzL ⟨_, rfl, ?_⟩
  refine ⟨45, _, rfl, ⟨rfl, by decide, rfl⟩, _, rfl, _, rfl, ?_⟩
  refine ⟨_, rfl, ?_⟩
  exact endq rfl rfl
end Go.PI
