/- Own work of the verifier: CrL CrM CrP CrQ CrR CpC. -/
import Derived.Test.YtdflpkkgjppmgaaGreatChAW
import Derived.Test.YtdflpkkgjppmgaaGreatChBH
import Derived.Test.YtdflpkkgjppmgaaGreatChBG
import Derived.Test.YtdflpkkgjppmgaaGreatChBF
set_option linter.all false
set_option exponentiation.threshold 3000
set_option linter.deprecated false
/- HOW MANY BITS ARE SET, of the library. -/
open Go.Proofs
namespace Go.PI
open IM
set_option maxRecDepth 20000
set_option maxHeartbeats 1000000
variable (S : FuncId → Option (List AV → Heap → Option (AV × Heap)))
theorem pc_add : ∀ (m n w : Nat), pc (m + n) w = pc m w + pc n (w / 2 ^ m)
  | 0, n, w => by rw [Nat.zero_add]; show _ = 0 + pc n (w / 1); rw [Nat.div_one, Nat.zero_add]
  | m + 1, n, w => by
    rw [show m + 1 + n = m + n + 1 by omega]
    show w % 2 + pc (m + n) (w / 2) = w % 2 + pc m (w / 2) + _
    rw [pc_add m n (w / 2), Nat.div_div_eq_div_mul, Nat.pow_succ, Nat.mul_comm 2, Nat.add_assoc]
theorem pc_mod : ∀ (m w : Nat), pc m (w % 2 ^ m) = pc m w
  | 0, _ => rfl
  | m + 1, w => by
    show w % 2 ^ (m + 1) % 2 + pc m (w % 2 ^ (m + 1) / 2) = w % 2 + pc m (w / 2)
    have e1 : w % 2 ^ (m + 1) % 2 = w % 2 := by rw [Nat.pow_succ]; exact Nat.mod_mul_left_mod _ _ _
    have e2 : w % 2 ^ (m + 1) / 2 = w / 2 % 2 ^ m := by rw [Nat.pow_succ, Nat.mul_comm, Nat.mod_mul_right_div_self]
    rw [e1, e2, pc_mod m (w / 2)]
theorem bys_pc : ∀ (k w : Nat), bys k w = pc (8 * k) w
  | 0, _ => rfl
  | k + 1, w => by
    show pc 8 (w % 256) + bys k (w / 256) = _
    rw [bys_pc k, show 8 * (k + 1) = 8 + 8 * k by omega, pc_add, ← pc_mod 8 w]
def byv : Nat → Nat → Nat
  | 0, _ => 0
  | k + 1, w => pc 8 (w % 256) + 256 * byv k (w / 256)
theorem g3_byv : ∀ (k w : Nat), g3 k (g2 k (g1 k w)) = byv k w
  | 0, w => by show (_ &&& 0) = 0; exact Nat.and_zero _
  | k + 1, w => by rw [g123, g3_byv k]; rfl
def bnd : Nat → Nat
  | 0 => 0
  | k + 1 => 68 + 256 * bnd k
theorem g12_bnd : ∀ (k w : Nat), g2 k (g1 k w) ≤ bnd k
  | 0, w => by show ((_ &&& 0) + (_ &&& 0)) ≤ 0; rw [Nat.and_zero, Nat.and_zero]; exact Nat.le_refl _
  | k + 1, w => by
    rw [g12]
    have h := g12_bnd k (w / 256)
    obtain ⟨-, -, h3, h4⟩ := d3 (w % 256) (Nat.mod_lt _ (by omega))
    show _ ≤ 68 + 256 * bnd k
    omega
theorem addU {a b : Nat} (h : a + b < 2 ^ 64) : intBin .add .u64 (a : Int) (b : Int) = some (AV.int .u64 ((a + b : Nat) : Int)) := by
  show some (AV.int .u64 (IntKind.wrap .u64 ((a : Int) + b))) = _
  rw [show (a : Int) + b = ((a + b : Nat) : Int) by omega, wrapU h]
theorem andI {a b : Nat} (ha : a < 2 ^ 63) (hb : b < 2 ^ 63) : intBin .and .i64 (a : Int) (b : Int) = some (AV.int .i64 ((a &&& b : Nat) : Int)) := by
  show some (AV.int .i64 (IntKind.wrap .i64 ((BitVec.ofInt 64 (a : Int) &&& BitVec.ofInt 64 (b : Int)).toNat : Int))) = _
  have h1 : a &&& b < 2 ^ 63 := Nat.and_lt_two_pow _ hb
  rw [BitVec.toNat_and, BitVec.ofInt_natCast, BitVec.ofInt_natCast, BitVec.toNat_ofNat, BitVec.toNat_ofNat, Nat.mod_eq_of_lt (by omega), Nat.mod_eq_of_lt (by omega), wrap64 (by unfold In64; omega)]
theorem ones_ct (hS : OldO S) {w : Nat} (hw : w < 2 ^ 64) : Ct (ctx.plus S) 140 [pu w] 0 fun r => r = pn (pc 64 w : Nat) := by
  have m1 : M1 8 = 6148914691236517205 := by decide
  have m2 : M2 8 = 3689348814741910323 := by decide
  have m3 : M3 8 = 1085102592571150095 := by decide
  have mb : bnd 8 = 4919131752989213764 := by decide
  have hb2 := g12_bnd 8 w
  rw [mb] at hb2
  have hbv := g3_byv 8 w
  have hsum := bys_pc 8 w
  generalize hx2 : g2 8 (g1 8 w) = x2 at hb2 hbv
  have hl1 : ∀ x, x &&& 6148914691236517205 ≤ 6148914691236517205 := fun x => Nat.and_le_right
  have hl2 : ∀ x, x &&& 3689348814741910323 ≤ 3689348814741910323 := fun x => Nat.and_le_right
  refine ct_of (hS 140 (by decide)) fn140 ?_
  have s1 : ∀ x k : Nat, x < 2 ^ 64 → x >>> k < 2 ^ 64 := fun x k h => Nat.lt_of_le_of_lt (Nat.shiftRight_le _ _) h
  have e1 : (w >>> 1 &&& 6148914691236517205) + (w &&& 6148914691236517205) = g1 8 w := by unfold g1; rw [m1, Nat.shiftRight_eq_div_pow]
  have b1 : g1 8 w < 2 ^ 64 := by
    rw [← e1]
    have := hl1 (w >>> 1)
    have := hl1 w
    omega
  refine ⟨_, shrU (k := 1) (by omega), ?_⟩
  refine ⟨rfl, _, andU (b := 6148914691236517205) (s1 _ _ hw) (by decide), ?_⟩
  refine ⟨rfl, _, andU (b := 6148914691236517205) hw (by decide), ?_⟩
  refine ⟨rfl, _, addU (by rw [e1]; exact b1), ?_⟩
  rw [e1]
  have e2 : (g1 8 w >>> 2 &&& 3689348814741910323) + (g1 8 w &&& 3689348814741910323) = x2 := by rw [← hx2]; unfold g2; rw [m2, Nat.shiftRight_eq_div_pow]
  refine ⟨_, shrU (k := 2) (by omega), ?_⟩
  refine ⟨rfl, _, andU (b := 3689348814741910323) (s1 _ _ b1) (by decide), ?_⟩
  refine ⟨rfl, _, andU (b := 3689348814741910323) b1 (by decide), ?_⟩
  refine ⟨rfl, _, addU (by rw [e2]; omega), ?_⟩
  rw [e2]
  have e3 : (x2 >>> 4 + x2) &&& 1085102592571150095 = byv 8 w := by rw [← hbv]; unfold g3; rw [m3, Nat.shiftRight_eq_div_pow]
  have e3b : x2 >>> 4 ≤ x2 := Nat.shiftRight_le _ _
  refine ⟨_, shrU (k := 4) (by omega), ?_⟩
  refine ⟨rfl, _, addU (by omega), ?_⟩
  refine ⟨rfl, _, andU (b := 1085102592571150095) (by omega) (by decide), ?_⟩
  rw [e3]
  -- the sum of the bytes
  obtain ⟨x, hx⟩ : ∃ x, x = byv 8 w := ⟨_, rfl⟩
  rw [← hx]
  have hc : ∀ u : Nat, pc 8 (u % 256) ≤ 8 := fun u => d5 _ (Nat.mod_lt _ (by omega))
  simp only [byv] at hx
  simp only [bys] at hsum
  have hf := fin8 (hc w) (hc (w / 256)) (hc (w / 256 / 256)) (hc (w / 256 / 256 / 256)) (hc (w / 256 / 256 / 256 / 256)) (hc (w / 256 / 256 / 256 / 256 / 256)) (hc (w / 256 / 256 / 256 / 256 / 256 / 256)) (hc (w / 256 / 256 / 256 / 256 / 256 / 256 / 256)) (x := x) (by omega) rfl rfl rfl
  obtain ⟨f1, f2, f3, f4, f5⟩ := hf
  have t1 : x >>> 8 = x / 256 := by rw [Nat.shiftRight_eq_div_pow]
  have t2 : ∀ y : Nat, y >>> 16 = y / 65536 := fun y => by rw [Nat.shiftRight_eq_div_pow]
  have t3 : ∀ y : Nat, y >>> 32 = y / 4294967296 := fun y => by rw [Nat.shiftRight_eq_div_pow]
  refine ⟨_, shrU (k := 8) (by omega), ?_⟩
  refine ⟨rfl, _, addU (by rw [t1]; omega), ?_⟩
  rw [t1]
  refine ⟨_, shrU (k := 16) (by omega), ?_⟩
  refine ⟨rfl, _, addU (by rw [t2]; omega), ?_⟩
  rw [t2]
  refine ⟨_, shrU (k := 32) (by omega), ?_⟩
  refine ⟨rfl, _, addU (by rw [t3]; omega), ?_⟩
  rw [t3]
  generalize x + x / 256 + (x + x / 256) / 65536 + (x + x / 256 + (x + x / 256) / 65536) / 4294967296 = x6 at f1 f4 ⊢
  have hwx : IntKind.wrap .i64 (x6 : Int) = x6 := wrap64 (by unfold In64; omega)
  have h127 : x6 &&& 127 = x6 % 128 := Nat.and_two_pow_sub_one_eq_mod x6 7
  refine ⟨_, (show intBin .and .i64 (IntKind.wrap .i64 (x6 : Int)) ((127 : Nat) : Int) = some (AV.int .i64 ((x6 &&& 127 : Nat) : Int)) by rw [hwx]; exact andI (b := 127) (by omega) (by decide)), ?_⟩
  rw [h127, f1]
  exact endq rfl (by show pn _ = pn _; rw [← hsum]; congr 2; omega)
theorem pc_zero : ∀ n, pc n 0 = 0
  | 0 => rfl
  | n + 1 => by show 0 % 2 + pc n (0 / 2) = 0; rw [show 0 / 2 = 0 from rfl, pc_zero n]
theorem between_ct (hS : OldO S) {w : Nat} {low : Int} {high : Nat} (hw : w < 2 ^ 64) (hh : high < 64) (hl : -1 ≤ low ∧ low < 63) : Ct (ctx.plus S) 108 [pu w, pn low, pn high] 0 fun r => r = pn (pc 64 ((w % 2 ^ high) >>> (low + 1).toNat) : Nat) := by
  refine ct_of (hS 108 (by decide)) fn108 ?_
  have hp : 2 ^ high < 2 ^ 64 := Nat.pow_lt_pow_right (by omega) hh
  have hp0 : 0 < 2 ^ high := Nat.pow_pos (by omega)
  have hsub : ((2 ^ high : Nat) : Int) - 1 = ((2 ^ high - 1 : Nat) : Int) := by omega
  have hsu : intBin .sub .u64 ((2 ^ high : Nat) : Int) 1 = some (AV.int .u64 ((2 ^ high - 1 : Nat) : Int)) := by
    show some (AV.int .u64 (IntKind.wrap .u64 (((2 ^ high : Nat) : Int) - 1))) = _
    rw [hsub, wrapU (by omega)]
  obtain ⟨l, hl2⟩ : ∃ l : Nat, low + 1 = l := ⟨(low + 1).toNat, by omega⟩
  have hmask : w &&& (2 ^ high - 1) = w % 2 ^ high := Nat.and_two_pow_sub_one_eq_mod w high
  have hml : w % 2 ^ high < 2 ^ 64 := Nat.lt_of_le_of_lt (Nat.mod_le _ _) hw
  rw [show (low + 1).toNat = l by omega]
  refine ⟨_, shlU hh, ?_⟩
  refine ⟨rfl, _, hsu, ?_⟩
  refine ⟨rfl, _, andU (b := 2 ^ high - 1) hw (by omega), ?_⟩
  rw [hmask]
  refine ⟨⟨by omega, by omega⟩, ?_⟩
  rw [hl2]
  refine ⟨_, shrU (k := l) (by omega), ?_⟩
  refine callq rfl (ones_ct S hS (Nat.lt_of_le_of_lt (Nat.shiftRight_le _ _) hml)) (by omega) ?_
  rintro _ rfl
  exact endq rfl rfl
end Go.PI
/- THE BEADS OF A PARTITION, of the program. -/
open Go.Proofs
namespace Go.PI
open IM
set_option maxRecDepth 20000
set_option maxHeartbeats 1000000
variable (S : FuncId → Option (List AV → Heap → Option (AV × Heap)))
def rpl (xs : List Int) (i : Nat) : Nat := 19 - i + (xs.getD i 0).toNat
def bdw (xs : List Int) : Nat → Nat
  | 0 => 0
  | i + 1 => bdw xs i ||| 2 ^ rpl xs i
theorem bdw_bit (xs : List Int) (p : Nat) : ∀ i, (bdw xs i).testBit p = true ↔ ∃ j, j < i ∧ rpl xs j = p
  | 0 => by
    show (0 : Nat).testBit p = true ↔ _
    rw [Nat.zero_testBit]
    exact ⟨fun h => (by cases h), fun ⟨j, h, _⟩ => by omega⟩
  | i + 1 => by
    show (bdw xs i ||| 2 ^ rpl xs i).testBit p = true ↔ _
    rw [Nat.testBit_or, Bool.or_eq_true, bdw_bit xs p i, Nat.testBit_two_pow, decide_eq_true_iff]
    constructor
    · rintro (⟨j, h1, h2⟩ | h)
      · exact ⟨j, by omega, h2⟩
      · exact ⟨i, by omega, h⟩
    · rintro ⟨j, h1, h2⟩
      by_cases e : j = i
      · subst e; exact .inr h2
      · exact .inl ⟨j, by omega, h2⟩
theorem beads_ct (hS : OldO S) {xs : List Int} (hl : xs.length ≤ 40) (hx : ∀ x ∈ xs, 0 ≤ x ∧ x ≤ 20) : Ct (ctx.plus S) 58 [pIs xs] 0 fun r => r = pu (bdw xs 20 : Nat) ∧ bdw xs 20 < 2 ^ 40 := by
  refine ct_of (hS 58 (by decide)) fn58 ?_
  refine ⟨fun m s => ∃ (i : Nat) (T : List PV), s = ⟨T, [], 0⟩ ∧ Gt T 27 [(0, pIs xs), (3, pu (bdw xs i : Nat)), (6, pn i)] ∧ m = 20 - i ∧ i ≤ 20 ∧ Hid (bdw xs i < 2 ^ 40), ⟨_, ci ⟨0, _, rfl, ⟨rfl, rfl, rfl, rfl, trivial⟩, rfl, Nat.zero_le _, ⟨show 0 < 2 ^ 40 by decide⟩⟩⟩, ?_⟩
  rintro m s ⟨i, T, rfl, hT, hm, hi, hb⟩
  obtain ⟨J, rfl⟩ := gt_open hT
  clear hT
  refine ⟨fun hlt => ?_, fun hge => ?_⟩
  · have hgd : 0 ≤ xs.getD i 0 ∧ xs.getD i 0 ≤ 20 := by
      rcases Nat.lt_or_ge i xs.length with h1 | h1
      · obtain ⟨z, hz⟩ := xs_get h1
        rw [getD_of hz]
        exact hx z (List.mem_of_getElem? hz)
      · rw [List.getD_eq_getElem?_getD, List.getElem?_eq_none h1]
        decide
    have hr : rpl xs i < 40 := by unfold rpl; omega
    have hp : 2 ^ rpl xs i < 2 ^ 40 := Nat.pow_lt_pow_right (by omega) hr
    have hN : bdw xs (i + 1) < 2 ^ 40 := Nat.or_lt_two_pow hb.h hp
    have h64 : bdw xs i < 2 ^ 64 := Nat.lt_trans hb.h (by decide)
    have p64 : 2 ^ rpl xs i < 2 ^ 64 := Nat.lt_trans hp (by decide)
    refine ⟨⟨by omega, by omega⟩, ?_⟩
    refine ⟨fun hil => ?_, fun hil => ?_⟩
    · obtain ⟨x, hxi⟩ := xs_get (xs := xs) (i := i) (by omega)
      have hxb := hx x (List.mem_of_getElem? hxi)
      have e : (19 : Int) - i + x = (rpl xs i : Nat) := by unfold rpl; rw [getD_of hxi]; omega
      refine ⟨⟨⟨by omega, by omega⟩, len_map_le (by omega)⟩, ?_⟩
      refine ⟨_, ld (at_map hxi) (by show _ * 1 = i; omega), ?_⟩
      refine ⟨⟨by omega, by omega⟩, ?_⟩
      rw [e]
      refine ⟨_, shlU (k := rpl xs i) (by omega), ?_⟩
      refine ⟨rfl, _, orU h64 p64, ?_⟩
      refine ⟨⟨by omega, by omega⟩, ?_⟩
      exact ⟨_, by omega, ci ⟨i + 1, _, rfl, ⟨rfl, rfl, rfl, by show pn _ = pn _; norm_cast, trivial⟩, rfl, by omega, ⟨hN⟩⟩⟩
    · have e : (19 : Int) - i = (rpl xs i : Nat) := by
        unfold rpl
        rw [List.getD_eq_getElem?_getD, List.getElem?_eq_none (by omega)]
        show (19 : Int) - i = ((19 - i + 0 : Nat) : Int)
        omega
      rw [e]
      refine ⟨_, shlU (k := rpl xs i) (by omega), ?_⟩
      refine ⟨rfl, _, orU h64 p64, ?_⟩
      refine ⟨⟨by omega, by omega⟩, ?_⟩
      exact ⟨_, by omega, ci ⟨i + 1, _, rfl, ⟨rfl, rfl, rfl, by show pn _ = pn _; norm_cast, trivial⟩, rfl, by omega, ⟨hN⟩⟩⟩
  · have hi20 : i = 20 := by omega
    subst hi20
    exact endq rfl ⟨rfl, hb.h⟩
end Go.PI
/- RIM HOOKS BY BEADS: what is counted, and what is listed. -/
open Go.Proofs
namespace Go.PI
open IM
theorem pc_snoc (w P : Nat) : pc (P + 1) w = pc P w + if w.testBit P = true then 1 else 0 := by
  rw [pc_add P 1 w, Nat.testBit_eq_decide_div_mod_eq]
  show pc P w + (w / 2 ^ P % 2 + 0) = _
  rcases Nat.mod_two_eq_zero_or_one (w / 2 ^ P) with h | h <;> simp [h]
theorem bt_add {w l high : Nat} (h1 : l ≤ high) (h2 : high ≤ 64) : pc 64 ((w % 2 ^ high) >>> l) + pc l w = pc high w := by
  have hy : w % 2 ^ high < 2 ^ high := Nat.mod_lt _ (Nat.two_pow_pos _)
  have e1 : pc high w = pc 64 (w % 2 ^ high) := by
    have := pc_add high (64 - high) (w % 2 ^ high)
    rw [show high + (64 - high) = 64 by omega, Nat.div_eq_of_lt hy, pc_zero, pc_mod] at this
    omega
  have e2 : pc l (w % 2 ^ high) = pc l w := by
    rw [← pc_mod l (w % 2 ^ high), Nat.mod_mod_of_dvd _ (Nat.pow_dvd_pow 2 h1), pc_mod]
  have e3 := pc_add l (64 - l) (w % 2 ^ high)
  rw [show l + (64 - l) = 64 by omega, e2] at e3
  have e4 := pc_add (64 - l) l ((w % 2 ^ high) / 2 ^ l)
  rw [show 64 - l + l = 64 by omega, Nat.div_div_eq_div_mul, ← Nat.pow_add, show l + (64 - l) = 64 by omega, Nat.div_eq_of_lt (Nat.lt_of_lt_of_le hy (Nat.pow_le_pow_right (by omega) h2)), pc_zero] at e4
  rw [Nat.shiftRight_eq_div_pow]
  omega
structure Lad (w : Nat) (R : Nat → Nat) : Prop where
  bit : ∀ P, w.testBit P = true ↔ ∃ j, j < 20 ∧ R j = P
  dec : ∀ j k, j < k → k < 20 → R k < R j
  top : ∀ j, j < 20 → R j < 64
structure Zc (R : Nat → Nat) (P q : Nat) : Prop where
  le : q ≤ 20
  up : ∀ j, j < q → P ≤ R j
  lo : ∀ j, q ≤ j → j < 20 → R j < P
theorem Zc.down {w : Nat} {R : Nat → Nat} {P q : Nat} (L : Lad w R) (z : Zc R (P + 1) q) : (w.testBit P = true ∧ q < 20 ∧ R q = P ∧ Zc R P (q + 1)) ∨ (w.testBit P = false ∧ Zc R P q) := by
  cases hb : w.testBit P with
  | true =>
    obtain ⟨j, hj, e⟩ := (L.bit P).1 hb
    have h1 : q ≤ j := by
      rcases Nat.lt_or_ge j q with h | h
      · have := z.up j h; omega
      · exact h
    have h2 : j = q := by
      rcases Nat.lt_or_ge q j with h | h
      · have := L.dec q j h hj
        have := z.lo q (Nat.le_refl _) (by omega)
        omega
      · omega
    subst h2
    refine .inl ⟨rfl, hj, e, by omega, fun k hk => ?_, fun k hk hk2 => ?_⟩
    · rcases Nat.lt_or_ge k j with h | h
      · have := z.up k h; omega
      · have : k = j := by omega
        subst this; omega
    · have := L.dec j k (by omega) hk2; omega
  | false =>
    refine .inr ⟨rfl, z.le, fun k hk => by have := z.up k hk; omega, fun k hk hk2 => ?_⟩
    have := z.lo k hk hk2
    rcases Nat.lt_or_ge (R k) P with h | h
    · exact h
    · have : R k = P := by omega
      rw [(L.bit P).2 ⟨k, hk2, this⟩] at hb
      cases hb
theorem Zc.cnt {w : Nat} {R : Nat → Nat} (L : Lad w R) : ∀ {P q : Nat}, Zc R P q → pc P w + q = 20
  | 0, q, z => by
    show 0 + q = 20
    rcases Nat.lt_or_ge q 20 with h | h
    · have := z.lo q (Nat.le_refl _) h; omega
    · have := z.le; omega
  | P + 1, q, z => by
    rw [pc_snoc]
    rcases z.down L with ⟨hb, h1, -, z2⟩ | ⟨hb, z2⟩
    · have := Zc.cnt L z2
      rw [if_pos hb]; omega
    · have := Zc.cnt L z2
      rw [if_neg (by rw [hb]; decide)]; omega
theorem Zc.t64 {w : Nat} {R : Nat → Nat} (L : Lad w R) : Zc R 64 0 := ⟨by omega, fun j h => by omega, fun j _ h => L.top j h⟩
theorem Zc.row {w : Nat} {R : Nat → Nat} (L : Lad w R) {i : Nat} (hi : i < 20) : Zc R (R i) (i + 1) :=
  ⟨hi, fun j hj => by
    rcases Nat.lt_or_ge j i with h | h
    · exact Nat.le_of_lt (L.dec j i h hi)
    · have : j = i := by omega
      subst this; exact Nat.le_refl _, fun j hj hj2 => L.dec i j (by omega) hj2⟩
theorem Zc.end0 {R : Nat → Nat} {q : Nat} (z : Zc R 0 q) : q = 20 := by
  rcases Nat.lt_or_ge q 20 with h | h
  · have := z.lo q (Nat.le_refl _) h; omega
  · have := z.le; omega
theorem by_rows {α : Type} {w : Nat} {R : Nat → Nat} (L : Lad w R) (f g : Nat → List α) (f0 : f 0 = []) (g0 : g 0 = [])
    (hno : ∀ P, P < 64 → w.testBit P = false → f (64 - P) = f (64 - (P + 1)))
    (hyes : ∀ P q, P < 64 → w.testBit P = true → q < 20 → R q = P → Zc R P (q + 1) → f (64 - (P + 1)) = g q → f (64 - P) = g (q + 1)) : f 64 = g 20 := by
  have key : ∀ m, m ≤ 64 → ∃ q, Zc R (64 - m) q ∧ f m = g q := by
    intro m
    induction m with
    | zero => exact fun _ => ⟨0, Zc.t64 L, by rw [f0, g0]⟩
    | succ m ih =>
      intro hm
      obtain ⟨q, z, e⟩ := ih (by omega)
      rw [show 64 - m = (64 - (m + 1)) + 1 by omega] at z
      have em : 64 - (64 - (m + 1)) = m + 1 := by omega
      have em2 : 64 - (64 - (m + 1) + 1) = m := by omega
      rcases z.down L with ⟨hb, h1, h2, z2⟩ | ⟨hb, z2⟩
      · refine ⟨q + 1, z2, ?_⟩
        have := hyes (64 - (m + 1)) q (by omega) hb h1 h2 z2 (by rw [em2]; exact e)
        rw [em] at this
        exact this
      · refine ⟨q, z2, ?_⟩
        have := hno (64 - (m + 1)) (by omega) hb
        rw [em, em2] at this
        rw [this]; exact e
  obtain ⟨q, z, e⟩ := key 64 (Nat.le_refl _)
  rw [Nat.sub_self] at z
  rw [e, z.end0]
def rowsL (R : Nat → Nat) : Nat → List Int
  | 0 => []
  | q + 1 => rowsL R q ++ if 19 - q < R q then [(R q : Int) - (19 - q : Nat)] else []
theorem ptw_rows {w : Nat} {R : Nat → Nat} (L : Lad w R) : ptw w (fun p => pc p w) 64 = rowsL R 20 := by
  refine by_rows L (ptw w fun p => pc p w) (rowsL R) rfl rfl (fun P hP hb => ?_) fun P q hP hb hq hR z ih => ?_
  · rw [ptw_at hP, if_neg (fun h => by rw [hb] at h; exact absurd h.1 (by decide)), List.append_nil]
  · have hc := z.cnt L
    have e : pc P w = 19 - q := by omega
    rw [ptw_at hP, ih]
    show rowsL R q ++ _ = rowsL R q ++ _
    rw [hR, e]
    by_cases h : 19 - q < P
    · rw [if_pos ⟨hb, h⟩, if_pos h]
    · rw [if_neg (fun h2 => h h2.2), if_neg h]
theorem tz_full {ys : List Int} : ∀ k, ys.getD k 0 ≠ 0 → tz ys (k + 1) = k + 1 := fun k h => by
  show (if ys.getD k 0 = 0 then tz ys k else k + 1) = k + 1
  rw [if_neg h]
theorem rows_take {ys : List Int} {R : Nat → Nat} (hO : OkS ys ys.length) (hl : ys.length ≤ 20) (hR : ∀ q, q < 20 → (R q : Int) = ys.getD q 0 + 19 - q) : rowsL R 20 = ys.take (tz ys ys.length) := by
  have h1 : ∀ q, q ≤ ys.length → rowsL R q = ys.take (tz ys q) := by
    intro q
    induction q with
    | zero => intro _; rfl
    | succ q ih =>
      intro hq
      have hr := hR q (by omega)
      have h0 := hO q (by omega)
      show rowsL R q ++ (if 19 - q < R q then [(R q : Int) - (19 - q : Nat)] else []) = ys.take (if ys.getD q 0 = 0 then tz ys q else q + 1)
      rw [ih (by omega)]
      by_cases hz : ys.getD q 0 = 0
      · rw [if_pos hz, if_neg (by omega), List.append_nil]
      · have e1 : tz ys q = q := by
          cases q with
          | zero => rfl
          | succ p =>
            refine tz_full p fun h => hz ?_
            have := h0.2 (by omega)
            rw [show p + 1 - 1 = p by omega, h] at this
            omega
        rw [if_neg hz, if_pos (by omega), e1, List.take_add_one, show (R q : Int) - ((19 - q : Nat) : Int) = ys.getD q 0 by omega]
        congr 1
        rw [List.getD_eq_getElem?_getD, List.getElem?_eq_getElem (by omega)]
        rfl
  have h2 : ∀ d, ys.length + d ≤ 20 → rowsL R (ys.length + d) = rowsL R ys.length := by
    intro d
    induction d with
    | zero => intro _; rfl
    | succ d ih =>
      intro hd
      have hr := hR (ys.length + d) (by omega)
      rw [List.getD_eq_getElem?_getD, List.getElem?_eq_none (by omega)] at hr
      simp only [Option.getD_none] at hr
      show rowsL R (ys.length + d) ++ (if 19 - (ys.length + d) < R (ys.length + d) then [(R (ys.length + d) : Int) - (19 - (ys.length + d) : Nat)] else []) = _
      rw [ih (by omega), if_neg (by omega), List.append_nil]
  have := h2 (20 - ys.length) (by omega)
  rw [show ys.length + (20 - ys.length) = 20 by omega] at this
  rw [this, h1 _ (Nat.le_refl _)]
end Go.PI
/- RIM HOOKS BY BEADS ARE THOSE ALONG THE RIM. -/
open Go.Proofs
namespace Go.PI
open IM
set_option maxHeartbeats 1000000
def wo (w n p : Nat) : Nat := (w ^^^ 2 ^ p) ^^^ 2 ^ (p - n)
def bt (w n p : Nat) : Nat := pc 64 ((w % 2 ^ p) >>> (p - n + 1))
def itm (w n p : Nat) : List PV := [pIs (ptw (wo w n p) (fun P => pc P (wo w n p)) 64), pn (bt w n p : Nat)]
def prL (w n : Nat) : Nat → List PV
  | 0 => []
  | m + 1 => prL w n m ++ if w.testBit (63 - m) = true ∧ n ≤ 63 - m ∧ w.testBit (63 - m - n) = false then itm w n (63 - m) else []
theorem prL_at {w n p : Nat} (hp : p < 64) : prL w n (64 - p) = prL w n (64 - (p + 1)) ++ if w.testBit p = true ∧ n ≤ p ∧ w.testBit (p - n) = false then itm w n p else [] := by
  have e : 64 - p = (64 - (p + 1)) + 1 := by omega
  have e2 : 63 - (64 - (p + 1)) = p := by omega
  rw [e]
  show prL w n (64 - (p + 1)) ++ _ = _
  rw [e2]
theorem prL_zero {w n L : Nat} (hw : w < 2 ^ L) : ∀ m, m + L ≤ 64 → prL w n m = []
  | 0, _ => rfl
  | m + 1, h => by
    show prL w n m ++ _ = []
    rw [prL_zero hw m (by omega), if_neg]
    · rfl
    · intro hc
      have := Nat.testBit_lt_two_pow (Nat.lt_of_lt_of_le hw (Nat.pow_le_pow_right (by omega) (show L ≤ 63 - m by omega)))
      rw [hc.1] at this
      cases this
theorem prL_len (w n : Nat) : ∀ m, ∃ N, (prL w n m).length = 2 * N ∧ N ≤ m
  | 0 => ⟨0, rfl, Nat.le_refl _⟩
  | m + 1 => by
    obtain ⟨N, h1, h2⟩ := prL_len w n m
    show ∃ N, (prL w n m ++ _).length = _ ∧ _
    rw [List.length_append, h1]
    split
    · exact ⟨N + 1, by simp [itm]; omega, by omega⟩
    · exact ⟨N, by simp, by omega⟩
def prR (w n : Nat) (R : Nat → Nat) : Nat → List PV
  | 0 => []
  | q + 1 => prR w n R q ++ if n ≤ R q ∧ w.testBit (R q - n) = false then itm w n (R q) else []
theorem prL_rows {w n : Nat} {R : Nat → Nat} (L : Lad w R) : prL w n 64 = prR w n R 20 := by
  refine by_rows L (prL w n) (prR w n R) rfl rfl (fun P hP hb => ?_) fun P q hP hb hq hR z ih => ?_
  · rw [prL_at hP, if_neg (fun h => by rw [hb] at h; exact absurd h.1 (by decide)), List.append_nil]
  · rw [prL_at hP, ih]
    show prR w n R q ++ _ = prR w n R q ++ _
    rw [hR]
    by_cases h : n ≤ P ∧ w.testBit (P - n) = false
    · rw [if_pos ⟨hb, h⟩, if_pos h]
    · rw [if_neg (fun h2 => h h2.2), if_neg h]
def Rx (R : Nat → Nat) (n i h : Nat) (j : Nat) : Nat := if i ≤ j ∧ j < i + h then R (j + 1) else if j = i + h then R i - n else R j
theorem Rx_in {R : Nat → Nat} {n i h j : Nat} (a : i ≤ j ∧ j < i + h) : Rx R n i h j = R (j + 1) := if_pos a
theorem Rx_at {R : Nat → Nat} {n i h : Nat} : Rx R n i h (i + h) = R i - n := by unfold Rx; rw [if_neg (by omega), if_pos rfl]
theorem Rx_out {R : Nat → Nat} {n i h j : Nat} (a : ¬ (i ≤ j ∧ j < i + h)) (b : j ≠ i + h) : Rx R n i h j = R j := by unfold Rx; rw [if_neg a, if_neg b]
theorem lad_x {w n i h : Nat} {R : Nat → Nat} (L : Lad w R) (hi : i + h < 20) (hn : 0 < n) (h0 : n ≤ R i) (h1 : ∀ j, j < i + h + 1 → R i - n < R j) (h2 : ∀ j, i + h + 1 ≤ j → j < 20 → R j < R i - n) : Lad (wo w n (R i)) (Rx R n i h) := by
  have inj : ∀ j k, j < 20 → k < 20 → R j = R k → j = k := fun j k hj hk e => by
    rcases Nat.lt_trichotomy j k with a | a | a
    · have := L.dec j k a hk; omega
    · exact a
    · have := L.dec k j a hj; omega
  refine ⟨fun P => ?_, fun j k hjk hk => ?_, fun j hj => ?_⟩
  · unfold wo
    rw [Nat.testBit_xor, Nat.testBit_xor, Nat.testBit_two_pow, Nat.testBit_two_pow]
    have hbi := (L.bit (R i)).2 ⟨i, by omega, rfl⟩
    have hbf : w.testBit (R i - n) = false := by
      cases hb : w.testBit (R i - n) with
      | false => rfl
      | true =>
        obtain ⟨j, hj, e⟩ := (L.bit _).1 hb
        rcases Nat.lt_or_ge j (i + h + 1) with a | a
        · have := h1 j a; omega
        · have := h2 j a hj; omega
    by_cases e1 : R i = P
    · subst e1
      rw [hbi]
      have : ¬ R i - n = R i := by omega
      simp only [this, decide_true, decide_false, Bool.xor_self, Bool.xor_false]
      constructor
      · intro hh; cases hh
      · rintro ⟨j, hj, e⟩
        exfalso
        unfold Rx at e
        split at e
        · have := inj (j + 1) i (by omega) (by omega) e; omega
        · split at e
          · omega
          · have := inj j i hj (by omega) e; omega
    · by_cases e2 : R i - n = P
      · subst e2
        rw [hbf]
        simp only [e1, decide_true, decide_false, Bool.xor_false, Bool.false_xor, true_iff]
        exact ⟨i + h, hi, by unfold Rx; rw [if_neg (by omega), if_pos rfl]⟩
      · simp only [e1, e2, decide_false, Bool.xor_false]
        rw [L.bit P]
        constructor
        · rintro ⟨j, hj, e⟩
          by_cases a : i < j ∧ j ≤ i + h
          · exact ⟨j - 1, by omega, by unfold Rx; rw [if_pos (by omega), show j - 1 + 1 = j by omega]; exact e⟩
          · have hji : j ≠ i := fun e' => by subst e'; exact e1 e
            exact ⟨j, hj, by unfold Rx; rw [if_neg (by omega), if_neg (by omega)]; exact e⟩
        · rintro ⟨j, hj, e⟩
          unfold Rx at e
          split at e
          · exact ⟨j + 1, by omega, e⟩
          · split at e
            · exact absurd e e2
            · exact ⟨j, hj, e⟩
  · have d1 := fun a b (x : a < b) (y : b < 20) => L.dec a b x y
    by_cases k1 : i ≤ k ∧ k < i + h
    · rw [Rx_in k1]
      by_cases j1 : i ≤ j ∧ j < i + h
      · rw [Rx_in j1]; exact d1 _ _ (by omega) (by omega)
      · rw [Rx_out j1 (by omega)]; exact d1 _ _ (by omega) (by omega)
    · by_cases k2 : k = i + h
      · subst k2
        rw [Rx_at]
        by_cases j1 : i ≤ j ∧ j < i + h
        · rw [Rx_in j1]; exact h1 _ (by omega)
        · rw [Rx_out j1 (by omega)]; exact h1 _ (by omega)
      · rw [Rx_out k1 k2]
        by_cases j1 : i ≤ j ∧ j < i + h
        · rw [Rx_in j1]; exact d1 _ _ (by omega) hk
        · by_cases j2 : j = i + h
          · subst j2
            rw [Rx_at]; exact h2 _ (by omega) hk
          · rw [Rx_out j1 j2]; exact d1 _ _ hjk hk
  · unfold Rx
    split
    · exact L.top _ (by omega)
    · split
      · have := L.top i (by omega); omega
      · exact L.top _ hj
theorem getD_nn {xs : List Int} (hp : ∀ x ∈ xs, 1 ≤ x) (q : Nat) : 0 ≤ xs.getD q 0 ∧ (q < xs.length → 1 ≤ xs.getD q 0) ∧ (xs.length ≤ q → xs.getD q 0 = 0) := by
  rw [List.getD_eq_getElem?_getD]
  rcases Nat.lt_or_ge q xs.length with h | h
  · rw [List.getElem?_eq_getElem h]
    have := hp _ (List.getElem_mem h)
    simp only [Option.getD_some]
    exact ⟨by omega, fun _ => this, fun h2 => by omega⟩
  · rw [List.getElem?_eq_none h]
    exact ⟨Int.le_refl _, fun h2 => by omega, fun _ => rfl⟩
theorem rp_rpl {xs : List Int} (hp : ∀ x ∈ xs, 1 ≤ x) {q : Nat} (hq : q < 20) : rp xs q = (rpl xs q : Nat) := by
  have := (getD_nn hp q).1
  unfold rp rpl
  rw [if_pos hq]; omega
theorem rpl_out {xs : List Int} (hp : ∀ x ∈ xs, 1 ≤ x) {q : Nat} (h : xs.length ≤ q) : rpl xs q = 19 - q := by
  unfold rpl
  rw [(getD_nn hp q).2.2 h]
  rfl
theorem lad_xs {xs : List Int} (hp : ∀ x ∈ xs, 1 ≤ x ∧ x ≤ 20) (hP : xs.Pairwise fun a b => b ≤ a) : Lad (bdw xs 20) (rpl xs) := by
  have hp1 : ∀ x ∈ xs, 1 ≤ x := fun x hx => (hp x hx).1
  refine ⟨fun P => bdw_bit xs P 20, fun j k hjk hk => ?_, fun j hj => ?_⟩
  · have a := getD_nn hp1 j
    have b := getD_nn hp1 k
    have : xs.getD k 0 ≤ xs.getD j 0 := by
      rcases Nat.lt_or_ge k xs.length with h | h
      · exact getD_dsc hP (by omega) h
      · rw [b.2.2 h]; exact a.1
    unfold rpl; omega
  · have : xs.getD j 0 ≤ 20 := by
      rw [List.getD_eq_getElem?_getD]
      rcases Nat.lt_or_ge j xs.length with h | h
      · rw [List.getElem?_eq_getElem h]; exact (hp _ (List.getElem_mem h)).2
      · rw [List.getElem?_eq_none h]; decide
    unfold rpl; omega
theorem rp_mono {xs : List Int} (hp : ∀ x ∈ xs, 1 ≤ x ∧ x ≤ 20) (hP : xs.Pairwise fun a b => b ≤ a) {a b : Nat} (h : a ≤ b) (hb : b ≤ 20) : rp xs b ≤ rp xs a := by
  have hp1 : ∀ x ∈ xs, 1 ≤ x := fun x hx => (hp x hx).1
  rcases Nat.lt_or_ge a b with h1 | h1
  · rcases Nat.lt_or_ge b 20 with h2 | h2
    · rw [rp_rpl hp1 h2, rp_rpl hp1 (show a < 20 by omega)]
      have := (lad_xs hp hP).dec a b h1 h2
      omega
    · have e : rp xs b = -1 := if_neg (by omega)
      rw [e, rp_rpl hp1 (show a < 20 by omega)]; omega
  · have : a = b := by omega
    subst this; exact Int.le_refl _
theorem rcs1_none {xs : List Int} {n i : Nat} : ∀ m, (∀ h, h < m → ¬ (OkS (cutF xs n i h) xs.length ∧ xs.getD i 0 - xs.getD (i + h) 0 + h < n)) → rcs1 xs n i m = []
  | 0, _ => rfl
  | m + 1, hno => by rw [rcs1_no (hno m (by omega)), rcs1_none m fun h hh => hno h (by omega)]
theorem rcs1_one {xs : List Int} {n i h : Nat} (hy : OkS (cutF xs n i h) xs.length ∧ xs.getD i 0 - xs.getD (i + h) 0 + h < n) : ∀ m, h < m → (∀ h', h' < m → h' ≠ h → ¬ (OkS (cutF xs n i h') xs.length ∧ xs.getD i 0 - xs.getD (i + h') 0 + h' < n)) →
    rcs1 xs n i m = [pIs ((cutF xs n i h).take (tz (cutF xs n i h) xs.length)), pn h]
  | 0, hm, _ => by omega
  | m + 1, hm, hno => by
    by_cases e : h = m
    · subst e
      rw [rcs1_yes hy, rcs1_none h fun h' hh => hno h' (by omega) (by omega), List.nil_append]
    · rw [rcs1_no (hno m (by omega) (fun e' => e e'.symm)), rcs1_one hy m (by omega) fun h' hh => hno h' (by omega)]
theorem row_same {xs : List Int} {n i : Nat} (hp : ∀ x ∈ xs, 1 ≤ x ∧ x ≤ 20) (hP : xs.Pairwise fun a b => b ≤ a) (hl : xs.length ≤ 20) (hn : 0 < n) (hi : i < xs.length) :
    (if n ≤ rpl xs i ∧ (bdw xs 20).testBit (rpl xs i - n) = false then itm (bdw xs 20) n (rpl xs i) else []) = rcs1 xs n i (xs.length - i) := by
  have hp1 : ∀ x ∈ xs, 1 ≤ x := fun x hx => (hp x hx).1
  have L := lad_xs hp hP
  have hi20 : i < 20 := by omega
  have ei := rp_rpl hp1 hi20
  by_cases hc : n ≤ rpl xs i ∧ (bdw xs 20).testBit (rpl xs i - n) = false
  · obtain ⟨c1, c2⟩ := hc
    rw [if_pos ⟨c1, c2⟩]
    -- the rows above the free place
    have hz : ∀ m, m ≤ 64 → ∃ q, Zc (rpl xs) (64 - m) q := by
      intro m
      induction m with
      | zero => exact fun _ => ⟨0, Zc.t64 L⟩
      | succ m ih =>
        intro hm
        obtain ⟨q, z⟩ := ih (by omega)
        rw [show 64 - m = (64 - (m + 1)) + 1 by omega] at z
        rcases z.down L with ⟨-, -, -, z2⟩ | ⟨-, z2⟩
        · exact ⟨_, z2⟩
        · exact ⟨_, z2⟩
    have htop := L.top i hi20
    obtain ⟨q, z⟩ := hz (64 - (rpl xs i - n)) (by omega)
    rw [show 64 - (64 - (rpl xs i - n)) = rpl xs i - n by omega] at z
    have hne : ∀ j, j < 20 → rpl xs j ≠ rpl xs i - n := fun j hj e => by
      rw [(L.bit _).2 ⟨j, hj, e⟩] at c2; cases c2
    have hqi : i < q := by
      rcases Nat.lt_or_ge i q with h | h
      · exact h
      · have := z.lo i h hi20; omega
    obtain ⟨h, rfl⟩ : ∃ h, q = i + h + 1 := ⟨q - 1 - i, by omega⟩
    have h1 : ∀ j, j < i + h + 1 → rpl xs i - n < rpl xs j := fun j hj => by
      have := z.up j hj
      have := hne j (by have := z.le; omega)
      omega
    have h2 : ∀ j, i + h + 1 ≤ j → j < 20 → rpl xs j < rpl xs i - n := z.lo
    have hle := z.le
    have hih : i + h < xs.length := by
      rcases Nat.lt_or_ge (i + h) xs.length with a | a
      · exact a
      · exfalso
        have e0 := (getD_nn hp1 (i + h)).2.2 a
        have e1 := h1 (i + h) (by omega)
        have e2 := rpl_out hp1 a
        have e3 := rpl_out hp1 (show xs.length ≤ 19 - (rpl xs i - n) by omega)
        exact hne (19 - (rpl xs i - n)) (by omega) (by omega)
    have eh := rp_rpl hp1 (show i + h < 20 by omega)
    have l1 : rp xs i - n < rp xs (i + h) := by
      have := h1 (i + h) (by omega)
      omega
    have l2 : rp xs (i + h + 1) < rp xs i - n := by
      rcases Nat.lt_or_ge (i + h + 1) 20 with a | a
      · rw [rp_rpl hp1 a]
        have := h2 (i + h + 1) (Nat.le_refl _) a
        omega
      · have e : rp xs (i + h + 1) = -1 := if_neg (by omega)
        omega
    have hy := (cut_iff hp1 hP hl hih).2 ⟨l1, l2⟩
    rw [rcs1_one hy _ (by omega) fun h' hh hne' hb => ?_]
    · have Lx := lad_x L (show i + h < 20 by omega) hn c1 h1 h2
      have z1 := (Zc.row L hi20).cnt L
      have z2 : Zc (rpl xs) (rpl xs i - n + 1) (i + h + 1) := ⟨by omega, fun j hj => by have := h1 j hj; omega, fun j hj hj2 => by have := h2 j hj hj2; omega⟩
      have z3 := z2.cnt L
      have b := bt_add (w := bdw xs 20) (l := rpl xs i - n + 1) (high := rpl xs i) (by omega) (by omega)
      have eb : bt (bdw xs 20) n (rpl xs i) = h := by unfold bt; omega
      have hcl := cutF_len xs n i h
      have er : ptw (wo (bdw xs 20) n (rpl xs i)) (fun P => pc P (wo (bdw xs 20) n (rpl xs i))) 64 = (cutF xs n i h).take (tz (cutF xs n i h) xs.length) := by
        rw [ptw_rows Lx, rows_take (ys := cutF xs n i h) (by rw [hcl]; exact hy.1) (by rw [hcl]; exact hl) (fun j hj => ?_), hcl]
        have g0 := getD_nn hp1 j
        rcases Nat.lt_or_ge j xs.length with a | a
        · rw [cutF_D a]
          by_cases j1 : i ≤ j ∧ j < i + h
          · rw [if_pos j1, Rx_in j1]
            have := (getD_nn hp1 (j + 1)).1
            unfold rpl; omega
          · rw [if_neg j1]
            by_cases j2 : j = i + h
            · subst j2
              rw [if_pos rfl, Rx_at]
              have := (getD_nn hp1 i).1
              unfold rpl at c1 ⊢; omega
            · rw [if_neg j2, Rx_out j1 j2]
              unfold rpl; omega
        · rw [Rx_out (by omega) (by omega), List.getD_eq_getElem?_getD, List.getElem?_eq_none (by rw [hcl]; exact a)]
          have := g0.2.2 a
          unfold rpl
          simp only [Option.getD_none]
          omega
      unfold itm
      rw [er, eb]
    · have hb := (cut_iff hp1 hP hl (show i + h' < xs.length by omega)).1 hb
      rcases Nat.lt_or_ge h' h with a | a
      · have := rp_mono hp hP (show i + h' + 1 ≤ i + h by omega) (by omega)
        omega
      · have := rp_mono hp hP (show i + h + 1 ≤ i + h' by omega) (by omega)
        omega
  · rw [if_neg hc]
    refine (rcs1_none _ fun h hh hb => hc ?_).symm
    have hb := (cut_iff hp1 hP hl (show i + h < xs.length by omega)).1 hb
    have hm1 : -1 ≤ rp xs (i + h + 1) := by
      rcases Nat.lt_or_ge (i + h + 1) 20 with a | a
      · rw [rp_rpl hp1 a]; omega
      · have e : rp xs (i + h + 1) = -1 := if_neg (by omega)
        omega
    have hnr : n ≤ rpl xs i := by omega
    refine ⟨hnr, ?_⟩
    cases hbit : (bdw xs 20).testBit (rpl xs i - n) with
    | false => rfl
    | true =>
      exfalso
      obtain ⟨j, hj, e⟩ := (L.bit _).1 hbit
      have ej := rp_rpl hp1 hj
      rcases Nat.lt_or_ge j (i + h + 1) with a | a
      · have := rp_mono hp hP (show j ≤ i + h by omega) (by omega)
        omega
      · have := rp_mono hp hP a (by omega)
        omega
theorem hooks_same {xs : List Int} {n : Nat} (hp : ∀ x ∈ xs, 1 ≤ x ∧ x ≤ 20) (hP : xs.Pairwise fun a b => b ≤ a) (hl : xs.length ≤ 20) (hn : 0 < n) : prL (bdw xs 20) n 64 = rcsA xs n xs.length := by
  have hp1 : ∀ x ∈ xs, 1 ≤ x := fun x hx => (hp x hx).1
  have L := lad_xs hp hP
  rw [prL_rows L]
  have h1 : ∀ q, q ≤ xs.length → prR (bdw xs 20) n (rpl xs) q = rcsA xs n q := by
    intro q
    induction q with
    | zero => intro _; rfl
    | succ q ih =>
      intro hq
      show prR (bdw xs 20) n (rpl xs) q ++ _ = rcsA xs n q ++ rcs1 xs n q (xs.length - q)
      rw [ih (by omega), row_same hp hP hl hn (by omega)]
  have h2 : ∀ d, xs.length + d ≤ 20 → prR (bdw xs 20) n (rpl xs) (xs.length + d) = prR (bdw xs 20) n (rpl xs) xs.length := by
    intro d
    induction d with
    | zero => intro _; rfl
    | succ d ih =>
      intro hd
      show prR (bdw xs 20) n (rpl xs) (xs.length + d) ++ (if n ≤ rpl xs (xs.length + d) ∧ (bdw xs 20).testBit (rpl xs (xs.length + d) - n) = false then itm (bdw xs 20) n (rpl xs (xs.length + d)) else []) = _
      rw [ih (by omega), if_neg, List.append_nil]
      rintro ⟨c1, c2⟩
      have e2 := rpl_out hp1 (show xs.length ≤ xs.length + d by omega)
      have e3 := rpl_out hp1 (show xs.length ≤ xs.length + d + n by omega)
      rw [(L.bit _).2 ⟨xs.length + d + n, by omega, by omega⟩] at c2
      cases c2
  have := h2 (20 - xs.length) (by omega)
  rw [show xs.length + (20 - xs.length) = 20 by omega] at this
  rw [this, h1 _ (Nat.le_refl _)]
end Go.PI
/- WITHOUT: a loop over places that calls the body of another one. -/
open Go.Proofs
namespace Go.PI
open IM
set_option maxRecDepth 20000
set_option maxHeartbeats 1000000
variable (S : FuncId → Option (List AV → Heap → Option (AV × Heap)))
theorem fn105 : ctx.fn 105 = some c105 := by kernel_rfl
theorem fn59 : ctx.fn 59 = some c59 := by kernel_rfl
def Opw : Opn := ⟨fun t => Nat.beq t 90 || Nat.beq t 1000000, fun t => Nat.beq t 90, false⟩
theorem fz_fnc2 {f i j : Nat} {ty ty2 : TypeId} {cs ds : List PV} {σ : List StB} (h : contOf σ i = some (ty, cs)) (h2 : contOf (σ.set i (.frz ty cs)) j = some (ty2, ds)) : Fz (.fnc f [.optr i 0, .optr j 0]) σ (.fnc f [.lptr cs, .lptr ds]) ((σ.set i (.frz ty cs)).set j (.frz ty2 ds)) :=
  fun _ hK => ⟨ty, cs, h, Nat.zero_le _, ty2, ds, h2, Nat.zero_le _, hK⟩
def InvW (Inv : Nat → List StB → Prop) (i m : Nat) (x : LpD) (p : Nat) (σ : List StB) : Prop := Inv p σ ∧ σ[m]? = some (.liv 90 [.yld i]) ∧ σ[m + 1]? = some (.lp x)
theorem beadsW_ct (hS : OldO S) {w n : Nat} : Ct (ctx.plus S) 59 [pu w, pn n] 3 fun r => r = .fnc 105 [.lptr [pu w], .lptr [pn n]] := by
  refine ct_of (hS 59 (by decide)) fn59 ?_
  refine ⟨by omega, ?_⟩
  refine ⟨by omega, ?_⟩
  exact endf (fz_fnc2 rfl rfl) rfl
theorem without_cm (hS : OldO S) {w n i d : Nat} (hw : w < 2 ^ 64) (hn : 0 < n ∧ n ≤ 20) {σ0 : List StB} (Inv : Nat → List StB → Prop)
    (hpush : ∀ p σ b, Inv p σ → Inv p (σ ++ [b])) (hset : ∀ p σ y, Inv p σ → Inv p (σ.set (σ0.length + 1) y))
    (hy : ∀ (p : Nat) (σ : List StB), p < 64 → w.testBit p = true → n ≤ p → w.testBit (p - n) = false → Inv (p + 1) σ → σ0.length + 1 < σ.length → Cy (ctx.plus S) i [pu (wo w n p), pn (bt w n p : Nat)] σ d fun b σ' => b = true ∧ Inv p σ' ∧ σ'[σ0.length]? = σ[σ0.length]? ∧ σ'[σ0.length + 1]? = σ[σ0.length + 1]?)
    (hskip : ∀ (p : Nat) (σ : List StB), (w.testBit p = true → n ≤ p → w.testBit (p - n) = true) → Inv (p + 1) σ → Inv p σ) (h0 : ∀ L, L ≤ 64 → w < 2 ^ L → Inv L σ0) :
    Cm (ctx.plus S) 105 [.yld i, .lptr [pu w], .lptr [pn n]] σ0 (64 * d + 4) fun r σ' => r = .tup [] ∧ Inv 0 σ' := by
  refine cm_of Opw (hS 105 (by decide)) fn105 fun c k0 hc => ?_
  refine ⟨by omega, ?_⟩
  refine ⟨_, rfl, ?_⟩
  refine callq rfl (placesF_ct S hS) (by omega) ?_
  rintro _ rfl
  have ln : (σ0 ++ [StB.liv 90 (PV.yld i).pcells]).length = σ0.length + 1 := by simp
  refine rng_pl S hS (d := d) (fun x p σ' => InvW Inv i σ0.length x p σ') hw (by omega) ?_ ?_ ?_ ?_
  · intro L hL hwL
    refine ⟨hpush _ _ _ (hpush _ _ _ (h0 L hL hwL)), ?_, ?_⟩
    · exact push_old (List.getElem?_concat_length)
    · rw [← ln]; exact List.getElem?_concat_length
  · rintro p σ' hb ⟨g0, g1, g2⟩
    exact ⟨hskip p σ' (fun h => by rw [hb] at h; cases h) g0, g1, g2⟩
  · rintro p σ' hp hb ⟨g0, g1, g2⟩
    have l2 : σ0.length + 1 < σ'.length := (List.getElem?_eq_some_iff.1 g2).1
    have b1 : ∀ y, (σ'.set (σ0.length + 1) y)[σ0.length]? = some (.liv 90 [.yld i]) := fun y => by rw [List.getElem?_set_ne (by omega)]; exact g1
    have b2 : ∀ y, (σ'.set (σ0.length + 1) y)[σ0.length + 1]? = some y := fun y => List.getElem?_set_self l2
    rw [ln]
    refine cy_of Opw g2 rfl rfl fun c k hc => ?_
    refine ⟨rfl, _, g2, rfl, ?_⟩
    have cont : ∀ (y : StB) (x : LpD), (w.testBit p = true → n ≤ p → w.testBit (p - n) = true) → InvW Inv i σ0.length x p ((σ'.set (σ0.length + 1) y).set (σ0.length + 1) (.lp x)) := fun y x h =>
      ⟨hset _ _ _ (hset _ _ _ (hskip p σ' h g0)), by rw [List.getElem?_set_ne (by omega)]; exact b1 y, List.getElem?_set_self (by rw [List.length_set]; exact l2)⟩
    refine ⟨_, rfl, ?_⟩
    refine ⟨fun hlt => ?_, fun hge => ?_⟩
    · refine ⟨_, b2 _, show k + 0 ≤ k + d by omega, rfl, ?_⟩
      exact cont _ _ (fun _ h => by omega)
    · refine ⟨_, rfl, ?_⟩
      refine ⟨_, rfl, ?_⟩
      refine ⟨⟨by omega, by omega⟩, ?_⟩
      rw [show (p : Int) - n = ((p - n : Nat) : Int) by omega]
      refine callq rfl (has_ct S hS hw (by omega)) (show k + 0 ≤ c by omega) ?_
      rintro _ rfl
      cases hb2 : w.testBit (p - n) with
      | true =>
        refine ⟨_, b2 _, show k + 0 ≤ k + d by omega, rfl, ?_⟩
        exact cont _ _ (fun _ _ => hb2)
      | false =>
        have p64 : 2 ^ p < 2 ^ 64 := Nat.pow_lt_pow_right (by omega) hp
        have q64 : 2 ^ (p - n) < 2 ^ 64 := Nat.pow_lt_pow_right (by omega) (by omega)
        refine ⟨none, by kernel_rfl, ?_⟩
        refine ⟨_, rfl, rfl, ?_⟩
        refine ⟨_, shlU (k := p) hp, ?_⟩
        refine ⟨rfl, _, xorU hw p64, ?_⟩
        refine ⟨_, rfl, rfl, ?_⟩
        refine ⟨⟨by omega, by omega⟩, ?_⟩
        rw [show (p : Int) - n = ((p - n : Nat) : Int) by omega]
        refine ⟨_, shlU (k := p - n) (by omega), ?_⟩
        refine ⟨rfl, _, xorU (Nat.xor_lt_two_pow hw p64) q64, ?_⟩
        refine ⟨some 8, by kernel_rfl, ?_⟩
        refine ⟨_, load_liv (b1 _) rfl rfl, rfl, ?_⟩
        refine ⟨_, rfl, rfl, ?_⟩
        refine ⟨_, rfl, rfl, ?_⟩
        refine ⟨⟨by omega, by omega⟩, ?_⟩
        rw [show (p : Int) - n = ((p - n : Nat) : Int) by omega]
        refine callq rfl (between_ct S hS (low := ((p - n : Nat) : Int)) (high := p) hw hp ⟨by omega, by omega⟩) (show k + 0 ≤ c by omega) ?_
        rintro _ rfl
        rw [show (((p - n : Nat) : Int) + 1).toNat = p - n + 1 by omega]
        refine yldq (hy p _ hp hb (by omega) hb2 (hset _ _ _ g0) (by rw [List.length_set]; exact l2)) (show k + 0 + 0 + d ≤ c by omega) ?_
        rintro r σ2 ⟨rfl, hI, e1, e2⟩
        have f2 := e2.trans (b2 _)
        have f1 := e1.trans (b1 _)
        refine ⟨_, f2, show k + 0 + 0 + d ≤ k + d by omega, rfl, hset _ _ _ hI, ?_, ?_⟩
        · rw [List.getElem?_set_ne (by omega)]; exact f1
        · exact List.getElem?_set_self (List.getElem?_eq_some_iff.1 f2).1
  · rintro σ' ⟨g0, g1, g2⟩
    rw [ln]
    refine ⟨_, g2, show LoopState.ready ≠ .busy from (fun h => by cases h), ?_⟩
    refine endm [] (by dsimp only; omega) ?_
    exact ⟨rfl, hset _ _ _ g0⟩
end Go.PI
/- THE LAW OF STRATA. -/
open Go.Proofs
namespace Go.PI
open IM
set_option maxRecDepth 20000
set_option maxHeartbeats 4000000
variable (S : FuncId → Option (List AV → Heap → Option (AV × Heap)))
theorem fn11 : ctx.fn 11 = some c11 := by kernel_rfl
theorem long_ct (hS : OldO S) {xs : List Int} : Ct (ctx.plus S) 11 [pIs xs] 0 fun r => r = .bool (decide (40 < xs.length)) := by
  refine ct_of (hS 11 (by decide)) fn11 ?_
  refine ⟨fun h => ?_, fun h => ?_⟩
  · exact endq rfl (by rw [decide_eq_true (by omega)])
  · exact endq rfl (by rw [decide_eq_false (by omega)])
theorem ckL_sorted {xs : List Int} : ∀ {prev : Int}, ckL prev xs = 0 → (∀ x ∈ xs, x ≤ prev) ∧ xs.Pairwise fun a b => b ≤ a := by
  induction xs with
  | nil => intro _ _; exact ⟨fun x hx => (by cases hx), .nil⟩
  | cons y ys ih =>
    intro prev h
    unfold ckL at h
    split at h
    · split at h
      · cases h
      · rename_i h1 h2
        obtain ⟨h3, h4⟩ := ih h
        refine ⟨fun x hx => ?_, List.pairwise_cons.2 ⟨h3, h4⟩⟩
        rcases List.mem_cons.1 hx with rfl | hx
        · omega
        · have := h3 x hx; omega
    · cases h
end Go.PI
