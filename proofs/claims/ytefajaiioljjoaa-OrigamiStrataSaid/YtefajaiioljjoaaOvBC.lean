/- Own work of the verifier: OtD. -/
import Derived.Test.YtefajaiioljjoaaOvBA
set_option linter.all false
set_option exponentiation.threshold 3000
set_option linter.deprecated false
/- A LATTICE AND A VECTOR, of the reference. -/
open Go.Proofs
namespace Go.PI
open IM
set_option maxRecDepth 10000
set_option maxHeartbeats 4000000
variable (S : FuncId → Option (List AV → Heap → Option (AV × Heap)))
theorem lat_fin {A B C X Y G b c : Int} (hn : NFm A B C) (hb : Bdl A B C) (hX : X.natAbs ≤ 12) (hY : Y.natAbs ≤ 12) (hG : 0 ≤ G) (hG0 : A = 0 → G ≤ 900) (hz : c = 0 → b = 0) (h0 : 0 ≤ c) (hs : ∀ u v, Ltt G b c u v ↔ Spn A B C X Y u v) :
    (G ≤ 0 → NFm G b c ∧ Bdl G b c) ∧ ∀ t, 0 ≤ b - t * G → b - t * G < G → NFm G (b - t * G) c ∧ Bdl G (b - t * G) c ∧ ∀ u v, Ltt G (b - t * G) c u v ↔ Spn A B C X Y u v := by
  refine ⟨fun hg => ?_, fun t m2 m3 => ?_⟩
  · have hN' : NFm G b c := ⟨by omega, h0, fun h => by omega, hz⟩
    exact ⟨hN', bd_next hn hb hN' hX hY hs hG0⟩
  · have hs2 : ∀ u v, Ltt G (b - t * G) c u v ↔ Spn A B C X Y u v := fun u v => ltt_mod.trans (hs u v)
    have hN' : NFm G (b - t * G) c := ⟨by omega, h0, fun _ => ⟨m2, m3⟩, fun h => by
      have hb0 := hz h
      subst hb0
      have := Int.emod_eq_of_lt m2 m3
      rw [Int.zero_sub, ← Int.neg_mul, Int.mul_emod_left] at this
      rw [Int.zero_sub, ← Int.neg_mul]
      omega⟩
    exact ⟨hN', bd_next hn hb hN' hX hY hs2 hG0, hs2⟩
theorem rmodq_ct (hS : OldO S) {p q : Int} (hq : 0 < q) (hq2 : q ≤ 100000) : Ct (ctx.plus S) 128 [pn p, pn q] 0 fun v => ∃ t, v = pn (p - t * q) ∧ 0 ≤ p - t * q ∧ p - t * q < q := by
  obtain ⟨t1, t2, t3, t4, t5⟩ := tqm (p := p) (q := q) (by omega)
  have hc : q * p.tdiv q = p.tdiv q * q := Int.mul_comm _ _
  refine ct_of (hS 128 (by decide)) fn128 ?_
  refine ⟨by omega, ?_⟩
  refine ⟨fun a => ?_, fun a => ?_⟩
  · refine ⟨⟨by omega, by omega⟩, ?_⟩
    have e : p.tmod q + q = p - (p.tdiv q - 1) * q := by rw [Int.sub_mul]; omega
    exact endq rfl ⟨p.tdiv q - 1, by rw [← e], by omega, by omega⟩
  · have e : p.tmod q = p - p.tdiv q * q := by omega
    exact endq rfl ⟨p.tdiv q, by rw [← e], by omega, by omega⟩
theorem rfloorq_ct (hS : OldO S) {p q : Int} (hq : 0 < q) (hp : p.natAbs ≤ 100000) (hq2 : q ≤ 100000) : Ct (ctx.plus S) 102 [pn p, pn q] 0 fun v => ∃ k, v = pn k ∧ 0 ≤ p - k * q ∧ p - k * q < q := by
  refine ct_of (hS 102 (by decide)) fn102 ?_
  refine callq rfl (rmodq_ct S hS hq hq2) (by omega) ?_
  rintro _ ⟨t, rfl, h1, h2⟩
  have e : p - (p - t * q) = t * q := by omega
  have ht : t.natAbs ≤ (t * q).natAbs := by rw [Int.natAbs_mul]; exact Nat.le_mul_of_pos_right _ (by omega)
  refine ⟨⟨by omega, by omega⟩, ?_⟩
  rw [e]
  refine ⟨⟨by omega, by rw [tdiv_mul (by omega)]; unfold In64; omega⟩, ?_⟩
  refine endq rfl ⟨t, by rw [tdiv_mul (by omega)], h1, h2⟩
theorem fn127 : ctx.fn 127 = some c127 := by kernel_rfl
theorem rgcdq_ct (hS : OldO S) {p q : Nat} : Ct (ctx.plus S) 127 [pn p, pn q] 0 fun v => v = pn (Nat.gcd p q : Nat) := by
  refine ct_of (hS 127 (by decide)) fn127 ?_
  refine ⟨fun m s => ∃ (a b : Nat) (T : List PV), s = ⟨T, [], 0⟩ ∧ Gt T 12 [(0, pn a), (1, pn b)] ∧ m = b ∧ Hid (Nat.gcd a b = Nat.gcd p q), ⟨_, ci ⟨p, q, _, rfl, ⟨rfl, rfl, rfl, trivial⟩, rfl, ⟨rfl⟩⟩⟩, ?_⟩
  rintro m s ⟨a, b, T, rfl, hT, hm, hg⟩
  obtain ⟨J, rfl⟩ := gt_open hT
  clear hT
  refine ⟨fun hne => ?_, fun heq => ?_⟩
  · have hne' : (b : Int) ≠ 0 := by omega
    obtain ⟨t1, t2, t3, t4, t5⟩ := tqm (p := (a : Int)) hne'
    have hmod : (a : Int).tmod b = ((a % b : Nat) : Int) := by
      have h1 := t2 (by omega)
      have h2 : ((a : Int).tmod b).natAbs = a % b := by rw [Int.natAbs_tmod, Int.natAbs_natCast, Int.natAbs_natCast]
      omega
    refine ⟨by kernel_rfl, ?_⟩
    refine ⟨by omega, ?_⟩
    have hlt : a % b < b := Nat.mod_lt _ (by omega)
    refine ⟨a % b, by omega, ci ⟨b, a % b, _, rfl, ⟨rfl, rfl, by show pn _ = pn _; rw [hmod], trivial⟩, rfl, ⟨by rw [← hg.h, Nat.gcd_comm b, ← Nat.gcd_rec, Nat.gcd_comm]⟩⟩⟩
  · have h0 : b = 0 := by omega
    subst h0
    have := hg.h
    rw [Nat.gcd_zero_right] at this
    exact endq rfl (by rw [← this]; rfl)
def Phs (b c x y : Int) (N : Nat) : Prop := (0 ≤ c ∧ 0 ≤ y ∧ eucP b c x y ≤ N) ∨ (0 ≤ c ∧ 3 * eucP b c x y ≤ N) ∨ (0 ≤ y ∧ y < c.natAbs ∧ 3 * eucP b c x y ≤ N)
theorem phs_next {b c x y k : Int} {N : Nat} (hy : y ≠ 0) (h0 : 0 ≤ c - k * y) (h1 : c - k * y < y.natAbs) (h : Phs b c x y N) : Phs x y (b - k * x) (c - k * y) N ∧ (b - k * x).natAbs ≤ N ∧ (k * x).natAbs ≤ N ∧ (k * y).natAbs ≤ c.natAbs + y.natAbs := by
  have hky : k.natAbs * y.natAbs = (k * y).natAbs := (Int.natAbs_mul _ _).symm
  have hb2 : (k * y).natAbs ≤ c.natAbs + y.natAbs := by omega
  have hw1 : 0 ≤ c → k.natAbs * y.natAbs + (c - k * y).natAbs ≤ 1 * c.natAbs := fun hc => by
    rw [hky]
    have : 0 ≤ k * y := by
      rcases Int.lt_or_le (k * y) 0 with h | h
      · exfalso
        have hk : k ≠ 0 := fun e => by subst e; omega
        have h3 : y.natAbs ≤ (k * y).natAbs := by rw [Int.natAbs_mul]; exact Nat.le_mul_of_pos_left _ (by omega)
        omega
      · exact h
    omega
  rcases h with ⟨a1, a2, a3⟩ | ⟨a1, a3⟩ | ⟨a1, a2, a3⟩
  · obtain ⟨p1, p2, p3⟩ := euc_step (K := N) hy (Nat.le_refl 1) (hw1 a1) (by rw [Nat.one_mul]; exact a3)
    exact ⟨.inl ⟨a2, h0, p1⟩, p2, p3, hb2⟩
  · obtain ⟨M, hM⟩ : ∃ M, eucP b c x y = M := ⟨_, rfl⟩
    rw [hM] at a3
    obtain ⟨p1, p2, p3⟩ := euc_step (K := M) hy (Nat.le_refl 1) (hw1 a1) (by rw [Nat.one_mul, hM]; exact Nat.le_refl _)
    exact ⟨.inr (.inr ⟨h0, h1, by omega⟩), by omega, by omega, hb2⟩
  · have hw3 : k.natAbs * y.natAbs + (c - k * y).natAbs ≤ 3 * c.natAbs := by rw [hky]; omega
    obtain ⟨p1, p2, p3⟩ := euc_step (K := N) hy (by omega) hw3 a3
    exact ⟨.inl ⟨a1, h0, p1⟩, p2, p3, hb2⟩
theorem fn95 : ctx.fn 95 = some c95 := by kernel_rfl
theorem rladd_ct (hS : OldO S) {A B C X Y : Int} (hn : NFm A B C) (hb : Bdl A B C) (hX : X.natAbs ≤ 12) (hY : Y.natAbs ≤ 12) :
    Ct (ctx.plus S) 95 [lat A B C, pn X, pn Y] 5 fun w => ∃ A' B' C', w = lat A' B' C' ∧ NFm A' B' C' ∧ Bdl A' B' C' ∧ ∀ u v, Ltt A' B' C' u v ↔ Spn A B C X Y u v := by
  obtain ⟨q1, q2, q3, q4⟩ := nf_small hn hb
  obtain ⟨N, hN, hN1, hN2⟩ : ∃ N : Nat, (3 * eucP B C X Y ≤ N ∧ B.natAbs ≤ N ∧ X.natAbs ≤ N) ∧ N ≤ 33000 ∧ (A = 0 → N ≤ 900) := by
    by_cases e : A = 0
    · have := eucP_le (q2 e) q1 hX hY
      have := q2 e
      exact ⟨900, ⟨by omega, by omega, by omega⟩, by omega, fun _ => by omega⟩
    · have := eucP_le q3 q1 hX hY
      exact ⟨33000, ⟨by omega, by omega, by omega⟩, by omega, fun h => absurd h e⟩
  refine ct_of (hS 95 (by decide)) fn95 ?_
  refine ⟨by omega, by omega, ?_⟩
  refine ⟨by kernel_rfl, ?_⟩
  refine ⟨_, rfl, rfl, ?_⟩
  refine ⟨_, rfl, rfl, ?_⟩
  refine ⟨fun q s => ∃ (b c x y : Int) (T : List PV), s = ⟨T, [.live 60 [pn A, pn B, pn C], .live 60 [pn 0, pn 0, pn 0]], 2⟩ ∧ Gt T 58 [(1, pn x), (2, pn y), (3, .optr 0 0), (6, .optr 1 0), (7, pn b), (8, pn c)] ∧ q = y.natAbs ∧ Hid (Euc A B C X Y b c x y N ∧ Phs b c x y N), ⟨_, ci ⟨B, C, X, Y, _, rfl, ⟨rfl, rfl, rfl, rfl, rfl, rfl, rfl, trivial⟩, rfl, ⟨⟨fun _ _ => Iff.rfl, hN.2.2, hN.2.1, q1, hY, hn.z⟩, .inr (.inl ⟨hn.c, hN.1⟩)⟩⟩⟩, ?_⟩
  rintro _ s ⟨b, c, x, y, T, rfl, hT, rfl, hh⟩
  obtain ⟨J, rfl⟩ := gt_open hT
  clear hT
  obtain ⟨hE, hP⟩ := hh.h
  clear hh
  have hbb := hE.hb
  have hxx := hE.hx
  have hcc := hE.hc
  have hyy := hE.hy
  refine ⟨fun hy => ?_, fun hy => ?_⟩
  · refine callq rfl (abs_ct S hS (by omega)) (by omega) ?_
    rintro _ rfl
    refine callq rfl (rfloorq_ct S hS (p := c) (q := (y.natAbs : Nat)) (by omega) (by omega) (by omega)) (by omega) ?_
    rintro _ ⟨k, rfl, h0, h1⟩
    have hk12 : k.natAbs ≤ (k * (y.natAbs : Nat)).natAbs := by rw [Int.natAbs_mul]; exact Nat.le_mul_of_pos_right _ (by omega)
    refine ⟨fun hneg => ?_, fun hpos => ?_⟩
    · have ek : (0 - k) * y = k * (y.natAbs : Nat) := by
        rw [show ((y.natAbs : Nat) : Int) = -y by omega, Int.mul_neg, Int.sub_mul]; omega
      obtain ⟨p1, p2, p3, p4⟩ := phs_next (k := 0 - k) hy (by rw [ek]; exact h0) (by rw [ek]; exact h1) hP
      refine ⟨⟨by omega, by omega⟩, ?_⟩
      refine ⟨by unfold In64; omega, ?_⟩
      refine ⟨by unfold In64; omega, ?_⟩
      refine ⟨by unfold In64; omega, ?_⟩
      refine ⟨by unfold In64; omega, ?_⟩
      refine ⟨(c - (0 - k) * y).natAbs, by omega, ci ⟨x, y, b - (0 - k) * x, c - (0 - k) * y, _, rfl, ⟨rfl, rfl, rfl, rfl, rfl, rfl, rfl, trivial⟩, rfl, ⟨⟨fun u v => spn_step.trans (hE.sp u v), p2, hxx, hyy, by omega, fun h => absurd h hy⟩, p1⟩⟩⟩
    · have ek : k * y = k * (y.natAbs : Nat) := by rw [show ((y.natAbs : Nat) : Int) = y by omega]
      obtain ⟨p1, p2, p3, p4⟩ := phs_next (k := k) hy (by rw [ek]; exact h0) (by rw [ek]; exact h1) hP
      refine ⟨by unfold In64; omega, ?_⟩
      refine ⟨by unfold In64; omega, ?_⟩
      refine ⟨by unfold In64; omega, ?_⟩
      refine ⟨by unfold In64; omega, ?_⟩
      refine ⟨(c - k * y).natAbs, by omega, ci ⟨x, y, b - k * x, c - k * y, _, rfl, ⟨rfl, rfl, rfl, rfl, rfl, rfl, rfl, trivial⟩, rfl, ⟨⟨fun u v => spn_step.trans (hE.sp u v), p2, hxx, hyy, by omega, fun h => absurd h hy⟩, p1⟩⟩⟩
  · subst hy
    have hG0 : A = 0 → ((Nat.gcd A.natAbs x.natAbs : Nat) : Int) ≤ 900 := fun e => by
      have h9 := hN2 e
      rw [e]
      show ((Nat.gcd 0 x.natAbs : Nat) : Int) ≤ 900
      rw [Nat.gcd_zero_left]; omega
    have hsp : ∀ u v, Ltt (Nat.gcd A.natAbs x.natAbs : Nat) b c u v ↔ Spn A B C X Y u v := fun u v => spn_end.symm.trans (hE.sp u v)
    obtain ⟨G, hG⟩ : ∃ G : Nat, Nat.gcd A.natAbs x.natAbs = G := ⟨_, rfl⟩
    have hgc := rgcdq_ct S hS (p := A.natAbs) (q := x.natAbs)
    rw [hG] at hG0 hsp hgc
    refine ⟨fun hneg => ?_, fun hpos => ?_⟩
    · have hz2 : ∀ u v, Ltt (G : Int) (0 - b) (0 - c) u v ↔ Spn A B C X Y u v := fun u v => by rw [Int.zero_sub, Int.zero_sub]; exact ltt_neg.trans (hsp u v)
      obtain ⟨f1, f2⟩ := lat_fin hn hb hX hY (by omega) hG0 (fun h => by have := hE.hz (by omega); omega) (by omega) hz2
      refine ⟨⟨by omega, by omega⟩, ?_⟩
      refine ⟨⟨by omega, by omega⟩, ?_⟩
      refine ⟨_, rfl, ?_⟩
      refine callq rfl (abs_ct S hS (by omega)) (by omega) ?_
      rintro _ rfl
      refine callq rfl (abs_ct S hS (by omega)) (by omega) ?_
      rintro _ rfl
      refine callq rfl hgc (by omega) ?_
      rintro _ rfl
      refine ⟨fun hg => ?_, fun hg => ?_⟩
      · have hG9 : (G : Int) ≤ 100000 := by
          by_cases e : A = 0
          · have := hG0 e; omega
          · have h5 : G ≤ A.natAbs := by rw [← hG]; exact Nat.gcd_le_left _ (by omega)
            omega
        refine callq rfl (rmodq_ct S hS hg hG9) (by omega) ?_
        rintro _ ⟨t, rfl, m2, m3⟩
        obtain ⟨e1, e2, e3⟩ := f2 t m2 m3
        refine ⟨_, rfl, ?_⟩
        refine ⟨_, _, rfl, ⟨rfl, Nat.le_of_ble_eq_true rfl, rfl⟩, _, rfl, _, rfl, ?_⟩
        refine ⟨_, rfl, ?_⟩
        exact endq rfl ⟨G, 0 - b - t * G, 0 - c, rfl, e1, e2, e3⟩
      · obtain ⟨e1, e2⟩ := f1 hg
        refine ⟨_, rfl, ?_⟩
        refine ⟨_, _, rfl, ⟨rfl, Nat.le_of_ble_eq_true rfl, rfl⟩, _, rfl, _, rfl, ?_⟩
        refine ⟨_, rfl, ?_⟩
        exact endq rfl ⟨G, 0 - b, 0 - c, rfl, e1, e2, hz2⟩
    · obtain ⟨f1, f2⟩ := lat_fin hn hb hX hY (by omega) hG0 hE.hz hpos hsp
      refine ⟨_, rfl, ?_⟩
      refine callq rfl (abs_ct S hS (by omega)) (by omega) ?_
      rintro _ rfl
      refine callq rfl (abs_ct S hS (by omega)) (by omega) ?_
      rintro _ rfl
      refine callq rfl hgc (by omega) ?_
      rintro _ rfl
      refine ⟨fun hg => ?_, fun hg => ?_⟩
      · have hG9 : (G : Int) ≤ 100000 := by
          by_cases e : A = 0
          · have := hG0 e; omega
          · have h5 : G ≤ A.natAbs := by rw [← hG]; exact Nat.gcd_le_left _ (by omega)
            omega
        refine callq rfl (rmodq_ct S hS hg hG9) (by omega) ?_
        rintro _ ⟨t, rfl, m2, m3⟩
        obtain ⟨e1, e2, e3⟩ := f2 t m2 m3
        refine ⟨_, rfl, ?_⟩
        refine ⟨_, _, rfl, ⟨rfl, Nat.le_of_ble_eq_true rfl, rfl⟩, _, rfl, _, rfl, ?_⟩
        refine ⟨_, rfl, ?_⟩
        exact endq rfl ⟨G, b - t * G, c, rfl, e1, e2, e3⟩
      · obtain ⟨e1, e2⟩ := f1 hg
        refine ⟨_, rfl, ?_⟩
        refine ⟨_, _, rfl, ⟨rfl, Nat.le_of_ble_eq_true rfl, rfl⟩, _, rfl, _, rfl, ?_⟩
        refine ⟨_, rfl, ?_⟩
        exact endq rfl ⟨G, b, c, rfl, e1, e2, hsp⟩
end Go.PI
