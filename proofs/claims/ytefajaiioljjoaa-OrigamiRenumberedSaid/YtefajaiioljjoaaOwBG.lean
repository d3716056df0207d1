/- Own work of the verifier: OtC. -/
import Derived.Test.YtefajaiioljjoaaOwAV
import Derived.Test.YtefajaiioljjoaaOwBD
set_option linter.all false
set_option exponentiation.threshold 3000
set_option linter.deprecated false
/- A LATTICE AND A VECTOR, of the program. -/
open Go.Proofs
namespace Go.PI
open IM
set_option maxRecDepth 10000
set_option maxHeartbeats 4000000
variable (S : FuncId → Option (List AV → Heap → Option (AV × Heap)))
def eucP (b c x y : Int) : Nat := x.natAbs * c.natAbs + b.natAbs * y.natAbs
theorem euc_step {b c x y k : Int} {w K : Nat} (hy : y ≠ 0) (hw : 1 ≤ w) (hk : k.natAbs * y.natAbs + (c - k * y).natAbs ≤ w * c.natAbs) (hP : w * eucP b c x y ≤ K) : eucP x y (b - k * x) (c - k * y) ≤ K ∧ (b - k * x).natAbs ≤ K ∧ (k * x).natAbs ≤ K := by
  unfold eucP at hP ⊢
  obtain ⟨R, hR⟩ : ∃ R, (c - k * y).natAbs = R := ⟨_, rfl⟩
  rw [hR] at hk ⊢
  have hY : 1 ≤ y.natAbs := by omega
  have h1 : (b - k * x).natAbs ≤ b.natAbs + k.natAbs * x.natAbs := by
    rw [← Int.natAbs_mul]; omega
  have h2 : (k * x).natAbs = k.natAbs * x.natAbs := Int.natAbs_mul _ _
  have h3 : (b.natAbs + k.natAbs * x.natAbs) * y.natAbs + x.natAbs * R ≤ K := by
    have e1 : k.natAbs * x.natAbs * y.natAbs = x.natAbs * (k.natAbs * y.natAbs) := by rw [Nat.mul_comm k.natAbs, Nat.mul_assoc]
    have e2 := Nat.mul_le_mul_left x.natAbs hk
    rw [Nat.mul_add] at e2
    have e3 : x.natAbs * (w * c.natAbs) = w * (x.natAbs * c.natAbs) := by rw [← Nat.mul_assoc, Nat.mul_comm x.natAbs w, Nat.mul_assoc]
    have e4 : b.natAbs * y.natAbs ≤ w * (b.natAbs * y.natAbs) := Nat.le_mul_of_pos_left _ (by omega)
    rw [Nat.mul_add] at hP
    rw [Nat.add_mul, e1]
    omega
  have h4 : b.natAbs + k.natAbs * x.natAbs ≤ (b.natAbs + k.natAbs * x.natAbs) * y.natAbs := Nat.le_mul_of_pos_right _ hY
  have h5 := Nat.mul_le_mul_right y.natAbs h1
  refine ⟨by omega, by omega, by omega⟩
structure Euc (A B C X Y b c x y : Int) (N : Nat) : Prop where
  sp : ∀ u v, Spn A b c x y u v ↔ Spn A B C X Y u v
  hx : x.natAbs ≤ N
  hb : b.natAbs ≤ N
  hc : c.natAbs ≤ 30
  hy : y.natAbs ≤ 30
  hz : c = 0 → b = 0
def lat (A B C : Int) : PV := .agg [pn A, pn B, pn C]
theorem mod_pos {b A : Int} (hA : 0 < A) : ∃ t, (b.tmod A + A).tmod A = b - t * A ∧ 0 ≤ (b.tmod A + A).tmod A ∧ (b.tmod A + A).tmod A < A := by
  obtain ⟨t1, t2, t3, t4, -⟩ := tqm (p := b) (q := A) (by omega)
  obtain ⟨s1, s2, s3, s4, -⟩ := tqm (p := b.tmod A + A) (q := A) (by omega)
  have h0 := s2 (by omega)
  refine ⟨b.tdiv A + (b.tmod A + A).tdiv A - 1, ?_, h0, by omega⟩
  rw [Int.sub_mul, Int.add_mul, Int.mul_comm _ A, Int.mul_comm _ A]
  omega
theorem nf_small {K A B C : Int} (h : NFm A B C) (hb : Bdl K A B C) (hK : 30 ≤ K) : C.natAbs ≤ 30 ∧ (A = 0 → B.natAbs ≤ 30) ∧ B.natAbs ≤ K ∧ A.natAbs ≤ K := by
  have h1 := h.c
  have h2 := h.a
  have h3 := hb.c
  have h4 := hb.a
  refine ⟨by omega, hb.b, ?_, by omega⟩
  by_cases e : A = 0
  · have := hb.b e; omega
  · have := h.b (by omega); omega
theorem eucP_le {b c x y : Int} {B : Nat} (hb : b.natAbs ≤ B) (hc : c.natAbs ≤ 30) (hx : x.natAbs ≤ 30) (hy : y.natAbs ≤ 30) : eucP b c x y ≤ 900 + B * 30 := by
  unfold eucP
  have := Nat.mul_le_mul hx hc
  have := Nat.mul_le_mul hb hy
  omega
theorem fn126 : ctx.fn 126 = some c126 := by kernel_rfl
theorem spanned_ct (hS : OldO S) {A B C X Y : Int} (hn : NFm A B C) (hb : Bdl 1900 A B C) (hX : X.natAbs ≤ 30) (hY : Y.natAbs ≤ 30) :
    Ct (ctx.plus S) 126 [lat A B C, pn X, pn Y] 5 fun w => ∃ A' B' C', w = lat A' B' C' ∧ NFm A' B' C' ∧ Bdl 1900 A' B' C' ∧ ∀ u v, Ltt A' B' C' u v ↔ Spn A B C X Y u v := by
  obtain ⟨q1, q2, q3, q4⟩ := nf_small hn hb (by omega)
  obtain ⟨N, hN, hN1, hN2⟩ : ∃ N : Nat, (eucP B C X Y ≤ N ∧ B.natAbs ≤ N ∧ X.natAbs ≤ N) ∧ N ≤ 60000 ∧ (A = 0 → N ≤ 1900) := by
    by_cases e : A = 0
    · have := eucP_le (q2 e) q1 hX hY
      have := q2 e
      exact ⟨1900, ⟨by omega, by omega, by omega⟩, by omega, fun _ => by omega⟩
    · have := eucP_le (b := B) (B := 1900) (by omega) q1 hX hY
      exact ⟨60000, ⟨by omega, by omega, by omega⟩, by omega, fun h => absurd h e⟩
  refine ct_of (hS 126 (by decide)) fn126 ?_
  refine ⟨by omega, by omega, ?_⟩
  refine ⟨fun q s => ∃ (b c x y : Int) (T : List PV), s = ⟨T, [.live 60 [pn A, pn b, pn c], .live 60 [pn 0, pn 0, pn 0]], 2⟩ ∧ Gt T 62 [(1, pn x), (2, pn y), (3, .optr 0 0), (6, .optr 1 0)] ∧ q = y.natAbs ∧ Hid (Euc A B C X Y b c x y N ∧ eucP b c x y ≤ N), ⟨_, ci ⟨B, C, X, Y, _, rfl, ⟨rfl, rfl, rfl, rfl, rfl, trivial⟩, rfl, ⟨⟨fun _ _ => Iff.rfl, hN.2.2, hN.2.1, q1, hY, hn.z⟩, hN.1⟩⟩⟩, ?_⟩
  rintro _ s ⟨b, c, x, y, T, rfl, hT, rfl, hh⟩
  obtain ⟨J, rfl⟩ := gt_open hT
  clear hT
  obtain ⟨hE, hP⟩ := hh.h
  clear hh
  refine ⟨fun hy => ?_, fun hy => ?_⟩
  · obtain ⟨t1, t2, t3, t4, t5⟩ := tqm (p := c) (q := y) hy
    obtain ⟨k, hk⟩ : ∃ k, c.tdiv y = k := ⟨_, rfl⟩
    rw [hk] at t1 t5
    have hcy := hE.hc
    have hyy := hE.hy
    have hbb := hE.hb
    have hxx := hE.hx
    have hr : c - k * y = c.tmod y := by rw [Int.mul_comm]; omega
    have hky : k.natAbs * y.natAbs + (c - k * y).natAbs ≤ 1 * c.natAbs := by
      rw [hr, ← hk, Int.natAbs_tdiv, Int.natAbs_tmod]
      show c.natAbs / y.natAbs * y.natAbs + c.natAbs % y.natAbs ≤ 1 * c.natAbs
      rw [Nat.mul_comm (c.natAbs / y.natAbs), Nat.div_add_mod, Nat.one_mul]
      exact Nat.le_refl _
    obtain ⟨p1, p2, p3⟩ := euc_step (K := N) hy (Nat.le_refl 1) hky (by rw [Nat.one_mul]; exact hP)
    have hky2 : (k * y).natAbs ≤ 30 := by rw [Int.natAbs_mul]; exact Nat.le_trans (Nat.le_trans (Nat.le_add_right _ _) hky) (by rw [Nat.one_mul]; exact hcy)
    refine ⟨_, rfl, ?_⟩
    refine ⟨⟨hy, by rw [hk]; unfold In64; omega⟩, ?_⟩
    rw [hk]
    refine ⟨_, rfl, ?_⟩
    refine ⟨by unfold In64; omega, ?_⟩
    refine ⟨by unfold In64; omega, ?_⟩
    refine ⟨_, rfl, ?_⟩
    refine ⟨by unfold In64; omega, ?_⟩
    refine ⟨by unfold In64; omega, ?_⟩
    refine ⟨_, _, rfl, ⟨rfl, Nat.le_of_ble_eq_true rfl, rfl⟩, _, rfl, _, rfl, ?_⟩
    refine ⟨_, _, rfl, ⟨rfl, Nat.le_of_ble_eq_true rfl, rfl⟩, _, rfl, _, rfl, ?_⟩
    refine ⟨(c - k * y).natAbs, by rw [hr]; omega, ci ⟨x, y, b - k * x, c - k * y, _, rfl, ⟨rfl, rfl, rfl, rfl, rfl, trivial⟩, rfl, ⟨⟨fun u v => spn_step.trans (hE.sp u v), by omega, hxx, hyy, by rw [hr]; omega, fun h => absurd h hy⟩, p1⟩⟩⟩
  · subst hy
    have hbb := hE.hb
    have hxx := hE.hx
    have hcc := hE.hc
    refine ⟨_, rfl, ?_⟩
    refine callq rfl (gcd_ct S hS (by omega) (by omega)) (by omega) ?_
    rintro _ rfl
    obtain ⟨G, hG⟩ : ∃ G : Nat, Nat.gcd A.natAbs x.natAbs = G := ⟨_, rfl⟩
    have hsp : ∀ u v, Ltt (G : Int) b c u v ↔ Spn A B C X Y u v := fun u v => by rw [← hG]; exact spn_end.symm.trans (hE.sp u v)
    have hG0 : A = 0 → (G : Int) ≤ 1900 := fun e => by
      have h9 := hN2 e
      rw [← hG, e]
      show ((Nat.gcd 0 x.natAbs : Nat) : Int) ≤ 1900
      rw [Nat.gcd_zero_left]; omega
    rw [hG]
    have fin : ∀ b2 c2 : Int, (c2 = 0 → b2 = 0) → 0 ≤ c2 → c2.natAbs ≤ 30 → (∀ u v, Ltt (G : Int) b2 c2 u v ↔ Spn A B C X Y u v) → ((G : Int) ≤ 0 → NFm G b2 c2 ∧ Bdl 1900 G b2 c2) ∧ (0 < (G : Int) → ∃ t, (b2.tmod G + G).tmod G = b2 - t * G ∧ NFm G (b2 - t * G) c2 ∧ Bdl 1900 G (b2 - t * G) c2 ∧ ∀ u v, Ltt (G : Int) (b2 - t * G) c2 u v ↔ Spn A B C X Y u v) := fun b2 c2 hz h0 h12 hs => by
      refine ⟨fun hg => ?_, fun hg => ?_⟩
      · have hN' : NFm G b2 c2 := ⟨by omega, h0, fun h => by omega, hz⟩
        exact ⟨hN', bd_next hn hb hN' hX hY hs hG0⟩
      · obtain ⟨t, m1, m2, m3⟩ := mod_pos (b := b2) hg
        rw [m1] at m2 m3
        have hs2 : ∀ u v, Ltt (G : Int) (b2 - t * G) c2 u v ↔ Spn A B C X Y u v := fun u v => ltt_mod.trans (hs u v)
        have hN' : NFm G (b2 - t * G) c2 := ⟨by omega, h0, fun _ => ⟨m2, m3⟩, fun h => by
          have hb0 := hz h
          subst hb0
          have := Int.emod_eq_of_lt m2 m3
          rw [Int.zero_sub, ← Int.neg_mul, Int.mul_emod_left] at this
          rw [Int.zero_sub, ← Int.neg_mul]
          omega⟩
        exact ⟨t, m1, hN', bd_next hn hb hN' hX hY hs2 hG0, hs2⟩
    refine ⟨_, _, rfl, ⟨rfl, Nat.le_of_ble_eq_true rfl, rfl⟩, _, rfl, _, rfl, ?_⟩
    refine ⟨_, rfl, ?_⟩
    refine ⟨fun hneg => ?_, fun hpos => ?_⟩
    · obtain ⟨f1, f2⟩ := fin (0 - b) (0 - c) (fun h => by have := hE.hz (by omega); omega) (by omega) (by omega) fun u v => by rw [Int.zero_sub, Int.zero_sub]; exact ltt_neg.trans (hsp u v)
      refine ⟨_, rfl, ?_⟩
      refine ⟨⟨by omega, by omega⟩, ?_⟩
      refine ⟨_, rfl, ?_⟩
      refine ⟨⟨by omega, by omega⟩, ?_⟩
      refine ⟨_, _, rfl, ⟨rfl, Nat.le_of_ble_eq_true rfl, rfl⟩, _, rfl, _, rfl, ?_⟩
      refine ⟨_, _, rfl, ⟨rfl, Nat.le_of_ble_eq_true rfl, rfl⟩, _, rfl, _, rfl, ?_⟩
      refine ⟨_, rfl, ?_⟩
      refine ⟨fun hg => ?_, fun hg => ?_⟩
      · obtain ⟨t, m1, m2, m3, m4⟩ := f2 hg
        obtain ⟨-, -, -, r4, -⟩ := tqm (p := (0 - b)) (q := (G : Int)) (by omega)
        have hG9 := m3.a
        refine ⟨by kernel_rfl, ?_⟩
        refine ⟨_, rfl, rfl, ?_⟩
        refine ⟨_, rfl, rfl, ?_⟩
        refine ⟨by omega, ?_⟩
        refine ⟨_, rfl, rfl, ?_⟩
        refine ⟨⟨by omega, by omega⟩, ?_⟩
        refine ⟨_, rfl, rfl, ?_⟩
        refine ⟨by omega, ?_⟩
        refine ⟨_, _, rfl, ⟨rfl, Nat.le_of_ble_eq_true rfl, rfl⟩, _, rfl, _, rfl, ?_⟩
        refine ⟨_, rfl, ?_⟩
        refine ⟨_, _, rfl, ⟨rfl, Nat.le_of_ble_eq_true rfl, rfl⟩, _, rfl, _, rfl, ?_⟩
        refine ⟨_, rfl, ?_⟩
        exact endq rfl ⟨G, (0 - b) - t * G, (0 - c), by show PV.agg [pn G, pn (((0 - b).tmod G + G).tmod G), pn (0 - c)] = _; rw [m1]; rfl, m2, m3, m4⟩
      · obtain ⟨m2, m3⟩ := f1 hg
        refine ⟨_, rfl, ?_⟩
        refine ⟨_, _, rfl, ⟨rfl, Nat.le_of_ble_eq_true rfl, rfl⟩, _, rfl, _, rfl, ?_⟩
        refine ⟨_, rfl, ?_⟩
        exact endq rfl ⟨G, (0 - b), (0 - c), rfl, m2, m3, fun u v => by rw [Int.zero_sub, Int.zero_sub]; exact ltt_neg.trans (hsp u v)⟩
    · obtain ⟨f1, f2⟩ := fin b c hE.hz hpos hcc hsp
      refine ⟨_, rfl, ?_⟩
      refine ⟨fun hg => ?_, fun hg => ?_⟩
      · obtain ⟨t, m1, m2, m3, m4⟩ := f2 hg
        obtain ⟨-, -, -, r4, -⟩ := tqm (p := b) (q := (G : Int)) (by omega)
        have hG9 := m3.a
        refine ⟨by kernel_rfl, ?_⟩
        refine ⟨_, rfl, rfl, ?_⟩
        refine ⟨_, rfl, rfl, ?_⟩
        refine ⟨by omega, ?_⟩
        refine ⟨_, rfl, rfl, ?_⟩
        refine ⟨⟨by omega, by omega⟩, ?_⟩
        refine ⟨_, rfl, rfl, ?_⟩
        refine ⟨by omega, ?_⟩
        refine ⟨_, _, rfl, ⟨rfl, Nat.le_of_ble_eq_true rfl, rfl⟩, _, rfl, _, rfl, ?_⟩
        refine ⟨_, rfl, ?_⟩
        refine ⟨_, _, rfl, ⟨rfl, Nat.le_of_ble_eq_true rfl, rfl⟩, _, rfl, _, rfl, ?_⟩
        refine ⟨_, rfl, ?_⟩
        exact endq rfl ⟨G, b - t * G, c, by show PV.agg [pn G, pn ((b.tmod G + G).tmod G), pn c] = _; rw [m1]; rfl, m2, m3, m4⟩
      · obtain ⟨m2, m3⟩ := f1 hg
        refine ⟨_, rfl, ?_⟩
        refine ⟨_, _, rfl, ⟨rfl, Nat.le_of_ble_eq_true rfl, rfl⟩, _, rfl, _, rfl, ?_⟩
        refine ⟨_, rfl, ?_⟩
        exact endq rfl ⟨G, b, c, rfl, m2, m3, hsp⟩
end Go.PI
