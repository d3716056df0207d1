/- Own work of the verifier: RnC. -/
import Derived.Test.YtefajaiioljjoaaOwBJ
set_option linter.all false
set_option exponentiation.threshold 3000
set_option linter.deprecated false
/- THE LAW of renumbered origamis. -/
open Go.Proofs
namespace Go.PI
open IM
set_option maxRecDepth 20000
set_option maxHeartbeats 40000000
variable (S : FuncId → Option (List AV → Heap → Option (AV × Heap)))
theorem fn12 : ctx.fn 12 = some c12 := by kernel_rfl
theorem renLaw_ct (hS : OldO S) (hA : Ct (ctx.plus S) 13 [] 0 fun r => r = .bool true) {r u r2 u2 bs : List Int} (hb : ∀ b ∈ bs, 0 ≤ b ∧ b < 256) : Ct (ctx.plus S) 12 [pO r u, pO r2 u2, .lst bs.length (bs.map p8)] 20000000 fun v => v = .bool true := by
  refine ct_of (hS 12 (by decide)) fn12 ?_
  refine ⟨by omega, by omega, ?_⟩
  refine callq rfl hA (by omega) ?_
  rintro _ rfl
  refine ⟨_, rfl, ?_⟩
  refine ⟨fun h1 => ?_, fun h1 => ?_⟩
  · exact endq rfl rfl
  refine ⟨_, rfl, ?_⟩
  refine ⟨fun h2 => ?_, fun h2 => ?_⟩
  · exact endq rfl rfl
  refine ⟨_, rfl, ?_⟩
  refine ⟨_, rfl, ?_⟩
  rcases two_cases S hS (r := r) (u := u) (r2 := r2) (u2 := u2) (by omega) (by omega) with ⟨e, he, h33⟩ | ⟨n, m, f, f', g, g', F, F', G, G', ho, ho2, hcn, h33⟩
  · refine callq rfl h33 (by omega) ?_
    rintro _ rfl
    refine ⟨fun _ => ?_, fun h => absurd h he⟩
    exact endq rfl rfl
  refine callq rfl h33 (by omega) ?_
  rintro _ rfl
  refine ⟨fun h => absurd rfl h, fun _ => ?_⟩
  obtain ⟨hrl, hul⟩ := ho.l1
  subst hrl
  refine ⟨_, rfl, ?_⟩
  refine callq rfl (size_ct S hS) (by omega) ?_
  rintro _ rfl
  refine callq rfl (shuffled_ct S hS (n := r.length) (by omega) hb) (by omega) ?_
  rintro _ ⟨e, e', he, rfl⟩
  refine ⟨_, rfl, ?_⟩
  refine callq rfl (renumber_ct S hS ho he) (by omega) ?_
  rintro _ rfl
  have hn := ho.le
  have pR := rn_isP ho.pr he
  have pU := rn_isP ho.pu he
  have hoN : IsO (PL r.length (rn e e' f)) (PL r.length (rn e e' g)) r.length (rn e e' f) (rn e e' f') (rn e e' g) (rn e e' g') := ⟨ho.pos, ho.le, rfl, rfl, pR, pU⟩
  have i1 := rn_isom (f := f) (g := g) he
  have i2 := rn_isom' ho.pr ho.pu he
  have hcN : Conn r.length (rn e e' f) (rn e e' g) := i1.conn ho.pr ho.pu ho.pos hcn.1
  have hlab := i1.label ho.pr ho.pu ho.pos hcn.1
  have lab : ∀ {r u : List Int} {n : Nat} {f f' g g' : Nat → Nat}, IsO r u n f f' g g' → Conn n f g → Ct (ctx.plus S) 27 [pO r u] 2010000 fun v => v = .tup [pO (Rs f g n (bst f g n n)) (Us f g n (bst f g n n)), pIs (PL n (ei f g n (bst f g n n))), pn 0] := fun ho hc => (labelAll_ok S hS ho).mono (Nat.le_refl _) fun v h => by
    rcases h with ⟨h, -⟩ | ⟨-, h⟩
    · exact absurd hc h
    · exact h
  have hl1 := lab ho hcn.1
  have hl2 := lab hoN hcN
  have hl3 := lab ho2 hcn.2
  rw [hlab.1, hlab.2] at hl2
  have hck := checkIso_ct S hS (r := r) (u := u) (r2 := PL r.length (rn e e' f)) (u2 := PL r.length (rn e e' g)) (fs := PL r.length e') (by omega) (by omega) (by rw [PL_len]; omega) (by rw [PL_len]; omega) (by rw [PL_len]; omega)
  rw [i1.chk ho hoN] at hck
  obtain ⟨LA, hLA⟩ : ∃ L, Rs f g r.length (bst f g r.length r.length) = L := ⟨_, rfl⟩
  obtain ⟨LB, hLB⟩ : ∃ L, Us f g r.length (bst f g r.length r.length) = L := ⟨_, rfl⟩
  obtain ⟨MA, hMA⟩ : ∃ L, Rs F G m (bst F G m m) = L := ⟨_, rfl⟩
  obtain ⟨MB, hMB⟩ : ∃ L, Us F G m (bst F G m m) = L := ⟨_, rfl⟩
  have lA : LA.length = r.length := by rw [← hLA, Rs_len]
  have lB : LB.length = r.length := by rw [← hLB, Us_len]
  have kA : MA.length = m := by rw [← hMA, Rs_len]
  have kB : MB.length = m := by rw [← hMB, Us_len]
  rw [hLA, hLB] at hl1 hl2
  rw [hMA, hMB] at hl3
  have hiso := isoKey_ct S hS hoN ho2 ⟨hcN, hcn.2⟩ (by omega)
  rw [hlab.1, hlab.2, hLA, hLB, hMA, hMB] at hiso
  have hsm := sameO_ct S hS (t := LA) (b := LB) (t' := MA) (b' := MB) (by omega) (by omega) (by have := ho2.le; omega) (by have := ho2.le; omega)
  refine ⟨by omega, ?_⟩
  refine ⟨_, _, rfl, ⟨rfl, Nat.le_of_ble_eq_true rfl, rfl⟩, _, rfl, _, rfl, ?_⟩
  refine ⟨_, rfl, ?_⟩
  refine callq rfl hl1 (by omega) ?_
  rintro _ rfl
  refine ⟨by omega, ?_⟩
  refine ⟨_, _, rfl, ⟨rfl, Nat.le_of_ble_eq_true rfl, rfl⟩, _, rfl, _, rfl, ?_⟩
  refine ⟨_, rfl, ?_⟩
  refine callq rfl hl2 (by omega) ?_
  rintro _ rfl
  refine ⟨by omega, ?_⟩
  refine ⟨_, _, rfl, ⟨rfl, Nat.le_of_ble_eq_true rfl, rfl⟩, _, rfl, _, rfl, ?_⟩
  refine ⟨_, rfl, ?_⟩
  refine callq rfl hl3 (by omega) ?_
  rintro _ rfl
  refine ⟨by omega, ?_⟩
  refine ⟨_, _, rfl, ⟨rfl, Nat.le_of_ble_eq_true rfl, rfl⟩, _, rfl, _, rfl, ?_⟩
  first | refine ⟨fun h => absurd rfl h, fun _ => ?_⟩ | refine ⟨fun _ => ?_, fun h => absurd rfl h⟩
  first | refine ⟨fun h => absurd rfl h, fun _ => ?_⟩ | refine ⟨fun _ => ?_, fun h => absurd rfl h⟩
  first | refine ⟨fun h => absurd rfl h, fun _ => ?_⟩ | refine ⟨fun _ => ?_, fun h => absurd rfl h⟩
  refine ⟨_, rfl, ?_⟩
  refine ⟨_, rfl, ?_⟩
  refine callq rfl (sameO_ct S hS (t := LA) (b := LB) (t' := LA) (b' := LB) (by omega) (by omega) (by omega) (by omega)) (by omega) ?_
  rintro _ rfl
  rw [decide_eq_true (⟨rfl, rfl⟩ : _ ∧ _)]
  refine ⟨_, rfl, ?_⟩
  refine ⟨_, rfl, ?_⟩
  refine callq rfl hck (by omega) ?_
  rintro _ rfl
  first | refine ⟨fun h => absurd rfl h, fun _ => ?_⟩ | refine ⟨fun _ => ?_, fun h => absurd rfl h⟩
  refine ⟨_, rfl, ?_⟩
  have h72 := checkConn_ok S hS ho
  have h72N := checkConn_ok S hS hoN
  have c0 : cc r.length f g = 0 := by unfold cc; rw [if_pos hcn.1]
  have c1 : cc r.length (rn e e' f) (rn e e' g) = 0 := by unfold cc; rw [if_pos hcN]
  rw [c0] at h72
  rw [c1] at h72N
  have hle := conj_leads ho.cm hoN.cm he.inv (rn_conj ho.pr ho.pu he)
  have hps := pstratum_ct S hS ho (by omega)
  have hpsN := pstratum_ct S hS hoN (by omega)
  rw [← acc_conj hle] at hpsN
  have hlc : (cycs r.length (cmf f f' g g')).length = (cycs r.length (cmf (rn e e' f) (rn e e' f') (rn e e' g) (rn e e' g'))).length := len_cnt fun L => by rw [cnt_cycs, cnt_cycs, hle]
  have hgq : gen r.length (cycs r.length (cmf f f' g g')) = gen r.length (cycs r.length (cmf (rn e e' f) (rn e e' f') (rn e e' g) (rn e e' g'))) := by unfold gen; rw [hlc]
  have hpg := pgenus_ct S hS ho
  have hpgN := pgenus_ct S hS hoN
  rw [← hgq] at hpgN
  have hal := acc_len (n := r.length) (M := cycs r.length (cmf f f' g g')) (r.length + 1)
  have hcl : (cycs r.length (cmf f f' g g')).length ≤ r.length := cycs_len (Nat.le_refl _)
  obtain ⟨W, hW⟩ : ∃ W, accTo r.length (cycs r.length (cmf f f' g g')) (r.length + 1) = W := ⟨_, rfl⟩
  obtain ⟨Gn, hG⟩ : ∃ G, gen r.length (cycs r.length (cmf f f' g g')) = G := ⟨_, rfl⟩
  rw [hW] at hps hpsN hal
  rw [hG] at hpg hpgN
  have hWl : W.length ≤ 1000 := by
    have := Nat.mul_le_mul (show r.length + 1 ≤ 31 by omega) (show (cycs r.length (cmf f f' g g')).length ≤ 30 by omega)
    omega
  refine callq rfl (st46 S hS h72 (P := pIs W) rfl fun _ => hps) (by omega) ?_
  rintro _ (⟨h, -⟩ | ⟨-, rfl⟩)
  · exact absurd rfl h
  refine ⟨_, rfl, ?_⟩
  refine callq rfl (st46 S hS h72N (P := pIs W) rfl fun _ => hpsN) (by omega) ?_
  rintro _ (⟨h, -⟩ | ⟨-, rfl⟩)
  · exact absurd rfl h
  refine ⟨_, rfl, ?_⟩
  refine callq rfl (ge47 S hS h72 (m := Gn) fun _ => hpg.mono (by omega) fun _ h => h) (by omega) ?_
  rintro _ (⟨h, -⟩ | ⟨-, rfl⟩)
  · exact absurd rfl h
  refine ⟨_, rfl, ?_⟩
  refine callq rfl (ge47 S hS h72N (m := Gn) fun _ => hpgN.mono (by omega) fun _ h => h) (by omega) ?_
  rintro _ (⟨h, -⟩ | ⟨-, rfl⟩)
  · exact absurd rfl h
  refine ⟨_, rfl, ?_⟩
  refine callq rfl (pe48 S hS h72 (fun v h => by obtain ⟨A, B, C, px, py, h, -⟩ := h; exact ⟨A, B, C, h⟩) fun _ => periods_ct S hS ho hcn.1 (by omega)) (by omega) ?_
  rintro _ (⟨h, -⟩ | ⟨-, A, B, C, ⟨A1, B1, C1, px, py, hlt1, n1, p1, d1⟩, rfl⟩)
  · exact absurd rfl h
  refine ⟨by omega, ?_⟩
  refine ⟨_, _, rfl, ⟨rfl, Nat.le_of_ble_eq_true rfl, rfl⟩, _, rfl, _, rfl, ?_⟩
  refine ⟨_, rfl, ?_⟩
  refine callq rfl (pe48 S hS h72N (fun v h => by obtain ⟨A, B, C, px, py, h, -⟩ := h; exact ⟨A, B, C, h⟩) fun _ => periods_ct S hS hoN hcN (by omega)) (by omega) ?_
  rintro _ (⟨h, -⟩ | ⟨-, A2, B2, C2, ⟨A3, B3, C3, qx, qy, hlt2, n2, p2, d2⟩, rfl⟩)
  · exact absurd rfl h
  obtain ⟨rfl, rfl, rfl⟩ := lat_inj hlt1
  obtain ⟨rfl, rfl, rfl⟩ := lat_inj hlt2
  obtain ⟨rfl, rfl, rfl⟩ := per_iso ho.pr ho.pu pR pU ho.pos i1 i2 d1 p1 n1 d2 p2 n2
  refine ⟨by omega, ?_⟩
  refine ⟨_, _, rfl, ⟨rfl, Nat.le_of_ble_eq_true rfl, rfl⟩, _, rfl, _, rfl, ?_⟩
  refine ⟨⟨by omega, by omega⟩, ?_⟩
  refine ⟨⟨by omega, by omega⟩, ?_⟩
  refine ⟨⟨by omega, by omega⟩, ?_⟩
  refine ⟨⟨by omega, by omega⟩, ?_⟩
  refine ⟨⟨by omega, by omega⟩, ?_⟩
  first | refine ⟨fun h => absurd rfl h, fun _ => ?_⟩ | refine ⟨fun _ => ?_, fun h => absurd rfl h⟩
  refine callq rfl (ints_ct S hS (xs := W) (ys := W) (by omega) (by omega)) (by omega) ?_
  rintro _ rfl
  rw [decide_eq_true (rfl : W = W)]
  first | refine ⟨fun h => absurd rfl h, fun _ => ?_⟩ | refine ⟨fun _ => ?_, fun h => absurd rfl h⟩
  refine ⟨_, rfl, ?_⟩
  refine ⟨_, rfl, ?_⟩
  refine ⟨true, ⟨peq_same [A, B, C], rfl⟩, ?_⟩
  refine ⟨_, rfl, ?_⟩
  refine ⟨_, rfl, ?_⟩
  refine callq rfl hiso (by omega) ?_
  rintro _ (⟨hL, x, rfl, hxl, hx0⟩ | ⟨hL, rfl⟩)
  · have hcx := checkIso_ct S hS (r := PL r.length (rn e e' f)) (u := PL r.length (rn e e' g)) (r2 := r2) (u2 := u2) (fs := x) (by rw [PL_len]; omega) (by rw [PL_len]; omega) (by omega) (by have := ho2.l1; omega) (by omega)
    rw [hx0] at hcx
    refine ⟨_, rfl, ?_⟩
    refine ⟨_, rfl, ?_⟩
    refine callq rfl hsm (by omega) ?_
    rintro _ rfl
    rw [decide_eq_true hL]
    first | refine ⟨fun h => absurd rfl h, fun _ => ?_⟩ | refine ⟨fun _ => ?_, fun h => absurd rfl h⟩
    refine ⟨_, rfl, ?_⟩
    refine ⟨_, rfl, ?_⟩
    refine callq rfl hcx (by omega) ?_
    rintro _ rfl
    first | refine ⟨fun h => absurd rfl h, fun _ => ?_⟩ | refine ⟨fun _ => ?_, fun h => absurd rfl h⟩
    exact endq rfl rfl
  · refine ⟨_, rfl, ?_⟩
    refine ⟨_, rfl, ?_⟩
    refine callq rfl hsm (by omega) ?_
    rintro _ rfl
    rw [decide_eq_false hL]
    first | refine ⟨fun h => absurd rfl h, fun _ => ?_⟩ | refine ⟨fun _ => ?_, fun h => absurd rfl h⟩
    first | refine ⟨fun h => absurd rfl h, fun _ => ?_⟩ | refine ⟨fun _ => ?_, fun h => absurd rfl h⟩
    exact endq rfl rfl
end Go.PI
