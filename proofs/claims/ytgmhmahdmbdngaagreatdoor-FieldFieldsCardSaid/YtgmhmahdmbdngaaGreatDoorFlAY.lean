/- Own work of the verifier: PvRest PvRoots PvRoot2. -/
import Derived.Test.YtgmhmahdmbdngaaGreatDoorFlAX
set_option linter.all false
set_option linter.deprecated false
open Go.Proofs
namespace Go.PI
open IM
set_option maxRecDepth 10000
set_option maxHeartbeats 4000000
variable (S : FuncId -> Option (List AV -> Heap -> Option (AV × Heap)))
theorem rws_digits : ∀ {L : List Int}, (∀ x ∈ L, (digits x).length <= 200) -> All2 Rw (L.map digits) L
 | [], _ => .nil
 | x :: xs, h => .cons (Rw.of (h x (by simp))) (rws_digits fun y hy => h y (by simp [hy]))
theorem map_pI (L : List Int) : L.map pI = (L.map digits).map pIs := by rw [List.map_map]; rfl
theorem pQ_digits (L : List Int) : pQ (L.map digits) = pR L := by
 unfold pQ pR
 rw [List.length_map, ← map_pI]
theorem digits_B2 {e : Nat} {x : Int} (h : B2 e x) (he : e <= 4800) : (digits x).length <= 186 := (h.mono he).dig (k := 185) (by omega)
theorem rest_ct (hR : OldR S) (h196 : S 196 = none) (h236 : S 236 = none) {Xs Ys : List (List Int)} {p0 q : List Int} {a b : Nat} (hX : All2 Rw Xs p0) (hY : All2 Rw Ys q) (hp0 : B2s a p0) (hq : B2s b q) (hlq : 1 <= q.length) (hle0 : q.length <= p0.length) (hlp0 : p0.length <= 5) (hab : a + (p0.length + 1 - q.length) * (2 * b + 1) <= 4800) (hb : b <= 1112) :
  Ct (ctx.plus S) 196 [pQ Xs, pQ Ys] 2000000000 fun r => ∃ Zs, All2 Rw Zs (remR p0.length p0 q) /\ r = pQ Zs := by
 refine ct_of h196 fn196 ?_
 have hXl := hX.length
 have hYl := hY.length
 obtain ⟨last, hlast⟩ : ∃ x, q.getD (q.length - 1) 0 = x := ⟨_, rfl⟩
 have hqt : q[q.length - 1]? = some last := by rw [← hlast]; exact get_at (by omega)
 have lbd : B2 b last := hq last (List.mem_of_getElem? hqt)
 have ldl : (digits last).length <= 44 := lbd.dig (k := 43) (by omega)
 obtain ⟨xl, hxl, hrl⟩ := rw_get hY (i := q.length - 1) (by omega)
 rw [hlast] at hrl
 refine ⟨⟨by omega, by omega⟩, ?_⟩
 refine ⟨⟨⟨by omega, by omega⟩, len_map_le (by omega)⟩, ?_⟩
 refine ⟨_, ld (at_map hxl) (by show _ * 1 = _; omega), ?_⟩
 refine ⟨by omega, [], rfl, ?_⟩
 refine ⟨by rw [List.length_map]; show _ = _ * 1; omega, ⟨by omega, pones_Q Xs⟩, by omega, fun h => absurd h (by omega), fun _ => ⟨by omega, 22, [], Xs.map pIs, rfl, by decide, rfl, ?_⟩⟩
 refine ⟨fun m s => ∃ (Rs : List (List Int)) (p : List Int) (st f k : Nat) (σ0 : List StB) (T : List PV),
  s = ⟨T, σ0, k⟩ /\ T.length = 72 /\ T.getD 1 undefP = pQ Ys /\ T.getD 5 undefP = pIs xl /\ T.getD 6 undefP = pQ Rs /\ m = p.length /\ All2 Rw Rs p /\ remR p0.length p0 q = remR f p q /\ p.length <= f /\ B2s (a + st * (2 * b + 1)) p /\ p.length + st <= p0.length /\ k <= 2 + 200000000 * st, ⟨p0.length, ?_⟩, ?_⟩
 ·refine ⟨_, frzS_tmp (i := 6) rfl ⟨22, Xs.map pIs, Xs.map pIs, rfl, ⟨by show (0 + _) * 1 <= _; rw [List.length_map]; omega, fun _ => rfl⟩, by rw [List.take_of_length_le (by rw [List.length_map]; show _ <= (0 + _) * 1; omega)], rfl⟩, ?_⟩
  refine ⟨Xs, p0, 0, p0.length, _, _, _, rfl, rfl, rfl, rfl, by show PV.lst (0 + _) _ = _; rw [Nat.zero_add]; rfl, rfl, hX, rfl, Nat.le_refl _, by simpa using hp0, by omega, by omega⟩
 ·rintro m s ⟨Rs, p, st, f, k, σ0, T, rfl, hTl, h1t, h5t, h6t, hm, hRs, hrem, hpf, hp, hst, hk⟩
  obtain ⟨J, rfl⟩ : ∃ J : Nat -> PV, T = [J 0, pQ Ys, J 2, J 3, J 4, pIs xl, pQ Rs, J 7, J 8, J 9, J 10, J 11, J 12, J 13, J 14, J 15, J 16, J 17, J 18, J 19, J 20, J 21, J 22, J 23, J 24, J 25, J 26, J 27, J 28, J 29, J 30, J 31, J 32, J 33, J 34, J 35, J 36, J 37, J 38, J 39, J 40, J 41, J 42, J 43, J 44, J 45, J 46, J 47, J 48, J 49, J 50, J 51, J 52, J 53, J 54, J 55, J 56, J 57, J 58, J 59, J 60, J 61, J 62, J 63, J 64, J 65, J 66, J 67, J 68, J 69, J 70, J 71] := ⟨fun i => T.getD i undefP, (pex72 T hTl).trans (by rw [h1t, h5t, h6t])⟩
  clear hTl h1t h5t h6t
  have hRl := hRs.length
  refine ⟨fun hge => ?_, fun hlt => ?_⟩
  ·have hge : q.length <= p.length := by omega
   have hsz : st * (2 * b + 1) + (2 * b + 1) <= (p0.length + 1 - q.length) * (2 * b + 1) := by
    rw [← Nat.succ_mul]
    exact Nat.mul_le_mul_right _ (by omega)
   have hbp : a + st * (2 * b + 1) + 2 * b + 1 <= 4800 := by omega
   obtain ⟨xt, hxt, hrt⟩ := rw_get hRs (i := p.length - 1) (by omega)
   have dq : ∀ i, (digits (q.getD i 0)).length <= 44 := fun i => (hq.getD i).dig (k := 43) (by omega)
   have btl : B2 (a + st * (2 * b + 1) + b) (p.getD (p.length - 1) 0 * last) := (hp.getD _).mul lbd
   have sum_d : ∀ {e x}, B2 e x -> e + b <= 4800 -> (digits x).length + (digits last).length <= 200 := fun {e x} h he => by
    have h1 := B2.dig (k := e / 26 + 1) h (by omega)
    have h2 := lbd.dig (k := b / 26 + 1) (by omega)
    omega
   refine ⟨⟨by omega, by omega⟩, ?_⟩
   refine ⟨⟨⟨by omega, by omega⟩, len_map_le (by omega)⟩, ?_⟩
   refine ⟨_, ld (at_map hxt) (by show _ * 1 = _; omega), ?_⟩
   have hLl : ((List.range p.length).map (elR p q)).length = p.length := by simp
   have hLg : ∀ i, i < p.length -> ((List.range p.length).map (elR p q))[i]? = some (elR p q i) := fun i hi => get_range hi
   have hLs : trimL ((List.range p.length).map (elR p q)) = stepR p q := rfl
   have hLe : ∀ i, elR p q i = p.getD i 0 * last * last - if p.length - q.length <= i then p.getD (p.length - 1) 0 * last * q.getD (i - (p.length - q.length)) 0 else 0 := fun i => by unfold elR; rw [hlast]
   have hLb : ∀ x ∈ (List.range p.length).map (elR p q), (digits x).length <= 200 := fun x hx => by
    obtain ⟨i, -, rfl⟩ := List.mem_map.1 hx
    have := digits_B2 (elR_bd hp hq i) (by omega)
    omega
   generalize (List.range p.length).map (elR p q) = L at hLl hLg hLs hLb
   refine ⟨fun m s => ∃ (i k' : Nat) (v : PV) (σ : List StB) (T : List PV), s = ⟨T, σ, k'⟩ /\ Gr pI 22 v σ (L.take i) ∧
    T.length = 72 /\ T.getD 1 undefP = pQ Ys /\ T.getD 5 undefP = pIs xl /\ T.getD 6 undefP = pQ Rs /\ T.getD 7 undefP = pIs xt /\ T.getD 8 undefP = v /\ T.getD 9 undefP = pn (i : Int) /\ m = p.length - i /\ i <= p.length /\ k' <= k + 1 + 20000000 * i, ⟨p.length, ?_⟩, ?_⟩
   ·exact ci ⟨0, _, _, _, _, rfl, Gr.nil, rfl, rfl, rfl, rfl, rfl, rfl, rfl, by omega, by omega, by omega⟩
   ·rintro m2 s ⟨i, k', v, σ, T, rfl, hg, hTl, h1t, h5t, h6t, h7t, h8t, h9t, rfl, hi, hk'⟩
    obtain ⟨J2, rfl⟩ : ∃ J : Nat -> PV, T = [J 0, pQ Ys, J 2, J 3, J 4, pIs xl, pQ Rs, pIs xt, v, pn (i : Int), J 10, J 11, J 12, J 13, J 14, J 15, J 16, J 17, J 18, J 19, J 20, J 21, J 22, J 23, J 24, J 25, J 26, J 27, J 28, J 29, J 30, J 31, J 32, J 33, J 34, J 35, J 36, J 37, J 38, J 39, J 40, J 41, J 42, J 43, J 44, J 45, J 46, J 47, J 48, J 49, J 50, J 51, J 52, J 53, J 54, J 55, J 56, J 57, J 58, J 59, J 60, J 61, J 62, J 63, J 64, J 65, J 66, J 67, J 68, J 69, J 70, J 71] := ⟨fun i => T.getD i undefP, (pex72 T hTl).trans (by rw [h1t, h5t, h6t, h7t, h8t, h9t])⟩
    clear hTl h1t h5t h6t h7t h8t h9t
    have hli : (L.take i).length = i := by simp; omega
    refine ⟨fun hlt => ?_, fun hge2 => ?_⟩
    ·obtain ⟨xi, hxi, hri⟩ := rw_get hRs (i := i) (by omega)
     have hLi := hLg i (by omega)
     have hLn : L.take (i + 1) = L.take i ++ [elR p q i] := take_snoc hLi
     have b1 : B2 (a + st * (2 * b + 1)) (p.getD i 0) := hp.getD i
     have b2 : B2 (a + st * (2 * b + 1) + b) (p.getD i 0 * last) := b1.mul lbd
     have b3 : B2 (a + st * (2 * b + 1) + b + b) (p.getD i 0 * last * last) := b2.mul lbd
     have d2 := digits_B2 b2 (by omega)
     have d3 := digits_B2 b3 (by omega)
     have grow : ∀ (n : Int) (k2 : Nat) (J3 : Nat -> PV), n = elR p q i -> k2 <= k' + 15000000 -> k2 + 10 <= 2000000000 -> ∀ K : PV -> List StB -> Nat -> Prop,
       (∀ v' σ', Gr pI 22 v' σ' (L.take (i + 1)) -> K v' σ' (k2 + 1)) -> AppK (ctx.plus S) 2000000000 k2 (σ ++ [.live 22 [pI n]]) [202, 202] v (.own σ.length 0 1 1 1) K := fun n k2 J3 hn h1 h2 K hK => by
      refine appG (f := pI) (e := 22) (y := n) hg.push push_cont rfl rfl rfl rfl (by kernel_rfl) rfl rfl (by omega) (by omega) fun v' σ' hv' _ _ => hK v' σ' ?_
      rw [hLn, ← hn]
      exact hv'
     refine ⟨⟨⟨by omega, by omega⟩, len_map_le (by omega)⟩, ?_⟩
     refine ⟨_, ld (at_map hxi) (by show _ * 1 = _; omega), ?_⟩
     refine callq rfl (rmul_ct S hR (X := p.getD i 0) (Y := last) hri hrl (sum_d b1 (by omega))) (by omega) ?_
     rintro _ rfl
     refine callq rfl (rmul_ct S hR (X := p.getD i 0 * last) (Y := last) (Rw.of (by omega)) hrl (sum_d b2 (by omega))) (by omega) ?_
     rintro _ rfl
     refine ⟨⟨by omega, by omega⟩, ?_⟩
     refine ⟨⟨by omega, by omega⟩, ?_⟩
     refine ⟨fun hsh => ?_, fun hsh => ?_⟩
     ·obtain ⟨xq, hxq, hrq⟩ := rw_get hY (i := i - (p.length - q.length)) (by omega)
      have bq := hq.getD (i - (p.length - q.length))
      have b4 : B2 (a + st * (2 * b + 1) + b + b) (p.getD (p.length - 1) 0 * last * q.getD (i - (p.length - q.length)) 0) := btl.mul bq
      have d4 := digits_B2 b4 (by omega)
      have dtl := digits_B2 btl (by omega)
      have dsum : (digits (p.getD (p.length - 1) 0 * last)).length + (digits (q.getD (i - (p.length - q.length)) 0)).length <= 200 := by
       have h1 := B2.dig (k := (a + st * (2 * b + 1) + b) / 26 + 1) btl (by omega)
       have h2 := B2.dig (k := b / 26 + 1) bq (by omega)
       omega
      have hval : p.getD i 0 * last * last - p.getD (p.length - 1) 0 * last * q.getD (i - (p.length - q.length)) 0 = elR p q i := by
       rw [hLe, if_pos (by omega)]
      refine ⟨by kernel_rfl, ?_⟩
      refine callq rfl (rmul_ct S hR (X := p.getD (p.length - 1) 0) (Y := last) hrt hrl (sum_d (hp.getD _) (by omega))) (by omega) ?_
      rintro _ rfl
      refine ⟨⟨⟨by omega, by omega⟩, len_map_le (by omega)⟩, ?_⟩
      refine ⟨_, ld (at_map hxq) (by show _ * 1 = _; omega), rfl, ?_⟩
      refine callq rfl (rmul_ct S hR (X := p.getD (p.length - 1) 0 * last) (Y := q.getD (i - (p.length - q.length)) 0) (Rw.of (by omega)) hrq dsum) (by omega) ?_
      rintro _ rfl
      refine callq rfl (rsub_ct S hR (X := p.getD i 0 * last * last) (Y := p.getD (p.length - 1) 0 * last * q.getD (i - (p.length - q.length)) 0) (Rw.of (by omega)) (Rw.of (by omega))) (by omega) ?_
      rintro _ rfl
      refine ⟨by omega, [pI _], rfl, ?_⟩
      refine grow _ _ J2 hval (by omega) (by omega) _ fun v' σ' hv' => ?_
      refine ⟨⟨by omega, by omega⟩, ?_⟩
      exact ⟨p.length - (i + 1), by omega, ci ⟨i + 1, _, v', σ', _, rfl, hv', rfl, rfl, rfl, rfl, rfl, rfl, rfl, rfl, by omega, by omega⟩⟩
     ·have hval : p.getD i 0 * last * last = elR p q i := by
       rw [hLe, if_neg (by omega)]; omega
      refine ⟨by omega, [pI _], rfl, ?_⟩
      refine grow _ _ J2 hval (by omega) (by omega) _ fun v' σ' hv' => ?_
      refine ⟨⟨by omega, by omega⟩, ?_⟩
      exact ⟨p.length - (i + 1), by omega, ci ⟨i + 1, _, v', σ', _, rfl, hv', rfl, rfl, rfl, rfl, rfl, rfl, rfl, rfl, by omega, by omega⟩⟩
    ·have hin : i = p.length := by omega
     subst hin
     rw [List.take_of_length_le (by omega)] at hg
     obtain ⟨σ', hz⟩ := hg.fz
     have hpq : PV.lst L.length (L.map pI) = pQ (L.map digits) := by rw [pQ_digits]; rfl
     rw [hpq] at hz
     have hst := trim_take L
     refine cal1 hz (short_ct S hR h236 (rws_digits hLb) (by omega)) (by omega) ?_
     rintro _ rfl
     have hbn := stepR_bd hp hq
     have hlen : (stepR p q).length < p.length := by
      rw [← hLs]
      have h1 := hst.2.2
      rcases Nat.lt_or_ge (trimL L).length p.length with h | h
      ·exact h
      ·exfalso
       have hfull : trimL L = L := by
        have h2 := hst.1
        rw [List.take_of_length_le (by omega)] at h2
        exact h2
       have hlast0 : L[p.length - 1]? = some 0 := by
        rw [hLg _ (by omega), hLe, if_pos (by omega)]
        have e1 : p.length - 1 - (p.length - q.length) = q.length - 1 := by omega
        rw [e1, hlast]
        congr 1
        omega
       have htop := trim_top L
       rw [hfull] at htop
       rcases htop with rfl | ⟨ys, t, rfl, ht⟩
       ·simp at hLl; omega
       ·simp at hLl
        rw [← hLl] at hlast0
        simp at hlast0
        exact ht hlast0
     have hremn : remR p0.length p0 q = remR (f - 1) (stepR p q) q := by
      rw [hrem]
      obtain ⟨f, rfl⟩ : ∃ g, f = g + 1 := ⟨f - 1, by omega⟩
      simp only [remR, if_pos hge, Nat.add_sub_cancel]
     have hcut : (L.map digits).take (trimL L).length = (stepR p q).map digits := by
      rw [← List.map_take, ← hst.1, hLs]
     rw [hcut]
     refine ⟨(stepR p q).length, by omega, ci ⟨(stepR p q).map digits, stepR p q, st + 1, f - 1, _, _, _, rfl, rfl, rfl, rfl, rfl, rfl, rws_digits fun x hx => ?_, hremn, by omega, ?_, by omega, by omega⟩⟩
     ·have := digits_B2 (hbn x hx) (by omega)
      omega
     ·have e : a + (st + 1) * (2 * b + 1) = a + st * (2 * b + 1) + 2 * b + 1 := by rw [Nat.succ_mul]; omega
      rw [e]; exact hbn
  ·have hlt : p.length < q.length := by omega
   have hfin : remR f p q = p := by
    cases f with
    | zero => rfl
    | succ f => simp only [remR, if_neg (show ¬ q.length <= p.length by omega)]
   exact endq rfl ⟨Rs, by rw [hrem, hfin]; exact hRs, rfl⟩
end Go.PI
open Go.Proofs
namespace Go.PI
open IM
theorem fn197 : ctx.fn 197 = some c197 := by kernel_rfl
set_option maxRecDepth 10000
set_option maxHeartbeats 4000000
variable (S : FuncId -> Option (List AV -> Heap -> Option (AV × Heap)))
def pCs (Zs : List (List (List Int))) : PV := .lst Zs.length (Zs.map pQ)
theorem varR_bd : ∀ (ss : List Int) (b : Int), 0 <= varR ss b /\ varR ss b <= ss.length
 | [], _ => by simp [varR]
 | s :: ss, b => by
  have := varR_bd ss (if s = 0 then b else s)
  simp only [varR, List.length_cons]
  generalize (if s = 0 then b else s) = bf at this ⊢
  generalize varR ss bf = w at this ⊢
  split
  ·omega
  ·split
   ·omega
   ·split <;> omega
theorem changes_ct (hR : OldR S) (h197 : S 197 = none) (h221 : S 221 = none) {Zs : List (List (List Int))} {Ls : List (List Int)} {xa xb : List Int} {a b : Int} (hZ : All2 (All2 Rw) Zs Ls) (hxa : Rw xa a) (hxb : Rw xb b) (ha : -1000000 <= a /\ a <= 1000000) (hb : -1000000 <= b /\ b <= 1000000) (hL : ∀ L ∈ Ls, B2s 4730 L /\ L.length <= 5) (hl : Ls.length <= 6) :
  Ct (ctx.plus S) 197 [pCs Zs, pIs xa, pIs xb] 1000000000 fun r => r = pn (varR (sgs a b Ls) 0) := by
 refine ct_of h197 fn197 ?_
 have hsl : (sgs a b Ls).length = Ls.length := by simp [sgs]
 have hZl := hZ.length
 refine ⟨fun m s => ∃ (i k : Nat) (n bf : Int) (j3 j4 j5 j6 ja jb jc jd je jf jg jh ji jj jk jl jm jn jo jp jq jr js jt ju jv jw jx jy jz jA jB : PV),
  s = ⟨[pCs Zs, pIs xa, pIs xb, j3, j4, j5, j6, pn n, pn bf, pn (i : Int), ja, jb, jc, jd, je, jf, jg, jh, ji, jj, jk, jl, jm, jn, jo, jp, jq, jr, js, jt, ju, jv, jw, jx, jy, jz, jA, jB], [], k⟩ /\ m = Ls.length - i /\ i <= Ls.length /\ n + varR ((sgs a b Ls).drop i) bf = varR (sgs a b Ls) 0 /\ (bf = -1 ∨ bf = 0 ∨ bf = 1) /\ (0 <= n /\ n <= i) /\ k <= 110000000 * i, ⟨Ls.length, ?_⟩, ?_⟩
 ·exact ci ⟨0, _, 0, 0, _, _, _, _, _, _, _, _, _, _, _, _, _, _, _, _, _, _, _, _, _, _, _, _, _, _, _, _, _, _, _, _, rfl, rfl, by omega, by simp, .inr (.inl rfl), by omega, by omega⟩
 ·rintro m s ⟨i, k, n, bf, j3, j4, j5, j6, ja, jb, jc, jd, je, jf, jg, jh, ji, jj, jk, jl, jm, jn, jo, jp, jq, jr, js, jt, ju, jv, jw, jx, jy, jz, jA, jB, rfl, hm, hi, hv, hbf, hn, hk⟩
  refine ⟨fun hlt => ?_, fun hge => ?_⟩
  ·obtain ⟨L, hLi⟩ : ∃ L, Ls[i]? = some L := ⟨Ls[i]'(by omega), List.getElem?_eq_getElem _⟩
   obtain ⟨Z, hZi, hZL⟩ := All2.get2 hZ hLi
   obtain ⟨hLB, hLl⟩ := hL L (List.mem_of_getElem? hLi)
   have hp := pw_two26 182
   have hp1 : pw 183 = 100000000 * pw 182 := rfl
   have hp2 := pw_pos 182
   have hp3 := two_mono (show 4730 <= 26 * 182 by omega)
   have hLw : ∀ c ∈ L, -pw 183 < c /\ c < pw 183 := fun c hc => by
    have := hLB c hc
    unfold B2 at this
    omega
   obtain ⟨X, hX⟩ : ∃ X, (vS L a b).1 = X := ⟨_, rfl⟩
   have hXd : (digits X).length <= 200 := by
    have h1 := (vS_bound (k := 183) ha hb L hLw).1
    have h2 := pw_mono (show 183 + L.length <= 200 by omega)
    rw [hX] at h1
    exact len_of (by omega)
   obtain ⟨s, hs⟩ : ∃ s, Int.sign X = s := ⟨_, rfl⟩
   have hsd : (sgs a b Ls)[i]? = some s := by simp [sgs, hLi, hX, hs]
   have hsg : s = -1 ∨ s = 0 ∨ s = 1 := sgs_small s (List.mem_of_getElem? hsd)
   rw [drop_of_get hsd] at hv
   simp only [varR] at hv
   refine ⟨⟨⟨by omega, by omega⟩, len_map_le (by omega)⟩, ?_⟩
   refine ⟨_, ld (at_map hZi) (by show _ * 1 = i; omega), ?_⟩
   refine callq rfl ((rat_ct S hR h221 (L := L) hZL hxa hxb ha hb hLw hLl).post fun r h => h.trans (congrArg pI hX)) (by omega) ?_
   rintro _ rfl
   refine callq rfl ((rsign_ct S hR (Rw.of hXd)).post fun r h => h.trans (congrArg pn hs)) (by omega) ?_
   rintro _ rfl
   refine ⟨fun h0 => ?_, fun h0 => ?_⟩
   ·rw [if_neg h0, if_neg h0] at hv
    refine ⟨fun h1 => ?_, fun h1 => ?_⟩
    ·rw [if_neg h1] at hv
     refine ⟨fun h2 => ?_, fun h2 => ?_⟩
     ·rw [if_neg h2] at hv
      refine ⟨⟨by omega, by omega⟩, ?_⟩
      refine ⟨⟨by omega, by omega⟩, ?_⟩
      exact ⟨Ls.length - (i + 1), by omega, ci ⟨i + 1, _, _, s, _, _, _, _, _, _, _, _, _, _, _, _, _, _, _, _, _, _, _, _, _, _, _, _, _, _, _, _, _, _, _, _, rfl, rfl, by omega, by omega, hsg, by omega, by omega⟩⟩
     ·rw [if_pos h2] at hv
      refine ⟨⟨by omega, by omega⟩, ?_⟩
      exact ⟨Ls.length - (i + 1), by omega, ci ⟨i + 1, _, _, s, _, _, _, _, _, _, _, _, _, _, _, _, _, _, _, _, _, _, _, _, _, _, _, _, _, _, _, _, _, _, _, _, rfl, rfl, by omega, by omega, hsg, by omega, by omega⟩⟩
    ·rw [if_pos h1] at hv
     refine ⟨⟨by omega, by omega⟩, ?_⟩
     exact ⟨Ls.length - (i + 1), by omega, ci ⟨i + 1, _, _, s, _, _, _, _, _, _, _, _, _, _, _, _, _, _, _, _, _, _, _, _, _, _, _, _, _, _, _, _, _, _, _, _, rfl, rfl, by omega, by omega, hsg, by omega, by omega⟩⟩
   ·rw [if_pos h0, if_pos h0] at hv
    refine ⟨⟨by omega, by omega⟩, ?_⟩
    exact ⟨Ls.length - (i + 1), by omega, ci ⟨i + 1, _, _, bf, _, _, _, _, _, _, _, _, _, _, _, _, _, _, _, _, _, _, _, _, _, _, _, _, _, _, _, _, _, _, _, _, rfl, rfl, by omega, by omega, hbf, by omega, by omega⟩⟩
  ·have e : i = Ls.length := by omega
   subst e
   rw [List.drop_eq_nil_of_le (by omega)] at hv
   simp only [varR, Int.add_zero] at hv
   subst hv
   exact endq rfl rfl
end Go.PI
open Go.Proofs
namespace Go.PI
open IM
theorem fn133 : ctx.fn 133 = some c133 := by kernel_rfl
set_option maxRecDepth 10000
set_option maxHeartbeats 8000000
theorem pex121 (T : List PV) (h : T.length = 121) : T = [T.getD 0 undefP, T.getD 1 undefP, T.getD 2 undefP, T.getD 3 undefP, T.getD 4 undefP, T.getD 5 undefP, T.getD 6 undefP, T.getD 7 undefP, T.getD 8 undefP, T.getD 9 undefP, T.getD 10 undefP, T.getD 11 undefP, T.getD 12 undefP, T.getD 13 undefP, T.getD 14 undefP, T.getD 15 undefP, T.getD 16 undefP, T.getD 17 undefP, T.getD 18 undefP, T.getD 19 undefP, T.getD 20 undefP, T.getD 21 undefP, T.getD 22 undefP, T.getD 23 undefP, T.getD 24 undefP, T.getD 25 undefP, T.getD 26 undefP, T.getD 27 undefP, T.getD 28 undefP, T.getD 29 undefP, T.getD 30 undefP, T.getD 31 undefP, T.getD 32 undefP, T.getD 33 undefP, T.getD 34 undefP, T.getD 35 undefP, T.getD 36 undefP, T.getD 37 undefP, T.getD 38 undefP, T.getD 39 undefP, T.getD 40 undefP, T.getD 41 undefP, T.getD 42 undefP, T.getD 43 undefP, T.getD 44 undefP, T.getD 45 undefP, T.getD 46 undefP, T.getD 47 undefP, T.getD 48 undefP, T.getD 49 undefP, T.getD 50 undefP, T.getD 51 undefP, T.getD 52 undefP, T.getD 53 undefP, T.getD 54 undefP, T.getD 55 undefP, T.getD 56 undefP, T.getD 57 undefP, T.getD 58 undefP, T.getD 59 undefP, T.getD 60 undefP, T.getD 61 undefP, T.getD 62 undefP, T.getD 63 undefP, T.getD 64 undefP, T.getD 65 undefP, T.getD 66 undefP, T.getD 67 undefP, T.getD 68 undefP, T.getD 69 undefP, T.getD 70 undefP, T.getD 71 undefP, T.getD 72 undefP, T.getD 73 undefP, T.getD 74 undefP, T.getD 75 undefP, T.getD 76 undefP, T.getD 77 undefP, T.getD 78 undefP, T.getD 79 undefP, T.getD 80 undefP, T.getD 81 undefP, T.getD 82 undefP, T.getD 83 undefP, T.getD 84 undefP, T.getD 85 undefP, T.getD 86 undefP, T.getD 87 undefP, T.getD 88 undefP, T.getD 89 undefP, T.getD 90 undefP, T.getD 91 undefP, T.getD 92 undefP, T.getD 93 undefP, T.getD 94 undefP, T.getD 95 undefP, T.getD 96 undefP, T.getD 97 undefP, T.getD 98 undefP, T.getD 99 undefP, T.getD 100 undefP, T.getD 101 undefP, T.getD 102 undefP, T.getD 103 undefP, T.getD 104 undefP, T.getD 105 undefP, T.getD 106 undefP, T.getD 107 undefP, T.getD 108 undefP, T.getD 109 undefP, T.getD 110 undefP, T.getD 111 undefP, T.getD 112 undefP, T.getD 113 undefP, T.getD 114 undefP, T.getD 115 undefP, T.getD 116 undefP, T.getD 117 undefP, T.getD 118 undefP, T.getD 119 undefP, T.getD 120 undefP] := by
 have := pexpand T
 rw [h] at this
 exact this
variable (S : FuncId -> Option (List AV -> Heap -> Option (AV × Heap)))
theorem stepR_len {p q : List Int} (hq : 1 <= q.length) (hle : q.length <= p.length) : (stepR p q).length < p.length := by
 have hLl : ((List.range p.length).map (elR p q)).length = p.length := by simp
 have hlast0 : ((List.range p.length).map (elR p q))[p.length - 1]? = some 0 := by
  rw [get_range (by omega)]
  unfold elR
  rw [if_pos (by omega), show p.length - 1 - (p.length - q.length) = q.length - 1 by omega]
  congr 1
  omega
 rw [stepR_el]
 generalize (List.range p.length).map (elR p q) = L at hLl hlast0
 have hst := trim_take L
 rcases Nat.lt_or_ge (trimL L).length p.length with h | h
 ·exact h
 ·exfalso
  have hfull : trimL L = L := by
   have h2 := hst.1
   rw [List.take_of_length_le (by omega)] at h2
   exact h2
  have htop := trim_top L
  rw [hfull] at htop
  rcases htop with rfl | ⟨ys, t, rfl, ht⟩
  ·simp at hLl; omega
  ·simp at hLl
   rw [← hLl] at hlast0
   simp at hlast0
   exact ht hlast0
theorem remR_len {q : List Int} (hq : 1 <= q.length) : ∀ (n : Nat) {p : List Int}, p.length <= n -> (remR n p q).length < q.length
 | 0, p, h => by
  simp only [remR]; omega
 | n + 1, p, h => by
  simp only [remR]
  by_cases hle : q.length <= p.length
  ·rw [if_pos hle]
   have := stepR_len hq hle
   exact remR_len hq n (by omega)
  ·rw [if_neg hle]; omega
theorem remR_bd {q : List Int} {b : Nat} (hq : B2s b q) (h1 : 1 <= q.length) : ∀ (n : Nat) {a : Nat} {p : List Int}, B2s a p -> B2s (a + (p.length + 1 - q.length) * (2 * b + 1)) (remR n p q)
 | 0, a, p, hp => hp.mono (by omega)
 | n + 1, a, p, hp => by
  simp only [remR]
  by_cases hle : q.length <= p.length
  ·rw [if_pos hle]
   have hl := stepR_len h1 hle
   refine (remR_bd hq h1 n (stepR_bd hp hq)).mono ?_
   have hm : ((stepR p q).length + 1 - q.length) * (2 * b + 1) + (2 * b + 1) <= (p.length + 1 - q.length) * (2 * b + 1) := by
    rw [← Nat.succ_mul]
    exact Nat.mul_le_mul_right _ (by omega)
   omega
  ·rw [if_neg hle]
   exact hp.mono (by omega)
theorem chR_mem : ∀ (n : Nat) {p q : List Int} {ep eq : Nat}, Siz p.length q.length ep eq -> B2s ep p -> B2s eq q -> ∀ L ∈ chR n p q, B2s 4730 L /\ L.length <= 5
 | 0, p, q, ep, eq, hz, hp, hq, L, hL => by
  obtain ⟨z1, z2, z3, z4, z5, z6⟩ := hz.le
  simp only [chR, List.mem_cons, List.not_mem_nil, or_false] at hL
  rcases hL with rfl | rfl
  ·exact ⟨hp.mono (by omega), by omega⟩
  ·exact ⟨hq.mono (by omega), by omega⟩
 | n + 1, p, q, ep, eq, hz, hp, hq, L, hL => by
  obtain ⟨z1, z2, z3, z4, z5, z6⟩ := hz.le
  simp only [chR] at hL
  have hRl := remR_len (q := q) (by omega) p.length (p := p) (Nat.le_refl _)
  have hRB := remR_bd hq (by omega) p.length hp
  cases hR : remR p.length p q with
  | nil =>
   rw [hR] at hL
   simp only [List.mem_cons, List.not_mem_nil, or_false] at hL
   rcases hL with rfl | rfl
   ·exact ⟨hp.mono (by omega), by omega⟩
   ·exact ⟨hq.mono (by omega), by omega⟩
  | cons r rs =>
   rw [hR] at hL hRl hRB
   simp only [List.mem_cons] at hL
   rcases hL with rfl | hL
   ·exact ⟨hp.mono (by omega), by omega⟩
   ·obtain ⟨ep', eq', z7, z8, z9⟩ := hz.next (l := (r :: rs).length) (by simp) hRl
    exact chR_mem n (by rw [List.length_map]; exact z7) (hq.mono z8) (hRB.mono (by omega)).map_neg L hL
theorem chR_length : ∀ (n : Nat) (p q : List Int), (chR n p q).length <= n + 2
 | 0, p, q => by simp [chR]
 | n + 1, p, q => by
  simp only [chR]
  split
  ·simp
  ·rename_i r rs _
   have := chR_length n q ((r :: rs).map fun x => -x)
   simp only [List.length_cons]
   omega
def OneR (P : List Int) (lo hi den : Int) : Prop :=
 (P.length = 2 /\ lo <= (0 - P.getD 0 0) * den /\ (0 - P.getD 0 0) * den <= hi) ∨
 (P.length ≠ 2 /\ ∃ c0 cs, P = c0 :: cs /\ varR (sgs lo den (chR cs.length (c0 :: cs) (derL 1 cs))) 0 - varR (sgs hi den (chR cs.length (c0 :: cs) (derL 1 cs))) 0 = 1)
theorem load_k {S : FuncId -> Option (List AV -> Heap -> Option (AV × Heap))} {σ : List StB} {j o q : Nat} {t t' : TypeId} {i : TI} {cs : List PV} {v : PV} (hi : (ctx.plus S).ty t = some i) (hd : (match i.desc with | .struct _ | .array _ _ => false | _ => true) = true) (hc : contOf σ j = some (t', cs)) (hv : cs[q]? = some v) (ho : o = q) : ploadE (ctx.plus S) σ t (.optr j o) = some v := by
 subst ho
 unfold ploadE
 rw [hi]
 simp only [hc]
 unfold partP
 split
 ·rename_i h; rw [h] at hd; cases hd
 ·rename_i h; rw [h] at hd; cases hd
 ·exact hv
theorem ones_rw : ∀ {L : List Int}, (∀ x ∈ L, -100000000 < x /\ x < 100000000) -> All2 Rw (L.map fun c => [c]) L
 | [], _ => .nil
 | x :: xs, h => .cons (Rw.one (h x (by simp))) (ones_rw fun y hy => h y (by simp [hy]))
structure OldF (S : FuncId -> Option (List AV -> Heap -> Option (AV × Heap))) : Prop where
 r : OldR S
 h133 : S 133 = none
 h196 : S 196 = none
 h197 : S 197 = none
 h221 : S 221 = none
 h236 : S 236 = none
theorem roots_ct (hF : OldF S) {P : List Int} {lo hi den : Int} (hc : Cf P) (hl : 2 <= P.length /\ P.length <= 5) (hlo : -1000000 <= lo /\ lo <= 1000000) (hhi : -1000000 <= hi /\ hi <= 1000000) (hden : 1 <= den /\ den <= 1000000) :
  Ct (ctx.plus S) 133 [pF P lo hi den] 40000000000 fun r => ∃ n, r = pn n /\ (n = 1 ↔ OneR P lo hi den) := by
 refine ct_of hF.h133 fn133 ?_
 have hR := hF.r
 refine ⟨by omega, ?_⟩
 refine ⟨_, rfl, ?_⟩
 refine ⟨fun h2 => ?_, fun h2 => ?_⟩
 ·have hP := get_at (p := P) (i := 0) (by omega)
  have hB := hc _ (List.mem_of_getElem? hP)
  have hm := mul_bd (a := 0 - P.getD 0 0) (b := den) (m := 1000) (n := 1000000) (by omega) (by omega)
  refine ⟨by kernel_rfl, ?_⟩
  refine ⟨_, rfl, rfl, ?_⟩
  refine ⟨⟨⟨by omega, by omega⟩, len_map_le (by omega)⟩, ?_⟩
  refine ⟨_, ld (at_map hP) rfl, rfl, ?_⟩
  refine ⟨⟨by omega, by omega⟩, ?_⟩
  refine ⟨_, rfl, rfl, ?_⟩
  refine ⟨⟨by omega, by omega⟩, ?_⟩
  refine ⟨_, rfl, rfl, ?_⟩
  refine ⟨fun h3 => ?_, fun h3 => ?_⟩
  ·refine ⟨_, rfl, rfl, ?_⟩
   refine ⟨⟨⟨by omega, by omega⟩, len_map_le (by omega)⟩, ?_⟩
   refine ⟨_, ld (at_map hP) rfl, rfl, ?_⟩
   refine ⟨⟨by omega, by omega⟩, ?_⟩
   refine ⟨_, rfl, rfl, ?_⟩
   refine ⟨⟨by omega, by omega⟩, ?_⟩
   refine ⟨_, rfl, rfl, ?_⟩
   refine ⟨fun h4 => ?_, fun h4 => ?_⟩
   ·exact endq rfl ⟨1, rfl, fun _ => .inl ⟨by omega, h3, h4⟩, fun _ => rfl⟩
   ·refine endq rfl ⟨0, rfl, fun h => by omega, fun h => ?_⟩
    rcases h with ⟨-, -, h⟩ | ⟨h, -⟩ <;> omega
  ·refine endq rfl ⟨0, rfl, fun h => by omega, fun h => ?_⟩
   rcases h with ⟨-, h, -⟩ | ⟨h, -⟩ <;> omega
 ·obtain ⟨c0, cs, rfl⟩ : ∃ c0 cs, P = c0 :: cs := by
   cases P with
   | nil => simp at hl
   | cons c0 cs => exact ⟨c0, cs, rfl⟩
  have hl2 : 2 <= cs.length /\ cs.length <= 4 := by simp at hl h2; omega
  have hdl := derL_len cs 1
  obtain ⟨ep0, eq0, hz0, hB0, hB1⟩ := chP_siz hc hl2
  have hd4 : ∀ x ∈ derL 1 cs, -4000 <= x /\ x <= 4000 := fun x hx => by
   obtain ⟨i, hi⟩ := List.getElem?_of_mem hx
   have hil := (List.getElem?_eq_some_iff.1 hi).1
   obtain ⟨e, he⟩ : ∃ e, cs[i]? = some e := ⟨cs[i]'(by omega), List.getElem?_eq_getElem _⟩
   rw [derL_get cs 1 i e he] at hi
   have heB := hc e (by simp [List.mem_of_getElem? he])
   cases hi
   have := mul_bd (a := 1 + (i : Int)) (b := e) (m := 4) (n := 1000) (by omega) heB
   omega
  obtain ⟨P, hP⟩ : ∃ P, c0 :: cs = P := ⟨_, rfl⟩
  obtain ⟨D, hD⟩ : ∃ D, derL 1 cs = D := ⟨_, rfl⟩
  have hPl : P.length = cs.length + 1 := by rw [← hP]; rfl
  have hDg : ∀ (i : Nat) (c : Int), 0 < i -> P[i]? = some c -> D[i - 1]? = some ((i : Int) * c) := fun i c hi h => by
   rw [← hP] at h
   obtain ⟨j, rfl⟩ : ∃ j, i = j + 1 := ⟨i - 1, by omega⟩
   rw [← hD, Nat.add_sub_cancel, derL_get cs 1 j c (by simpa using h)]
   congr 2
   omega
  rw [hP] at hc hB0 hz0
  rw [hD] at hdl hB1 hz0 hd4
  have hgoal : ∀ n : Int, (varR (sgs lo den (chR cs.length P D)) 0 - varR (sgs hi den (chR cs.length P D)) 0 = n) -> (n = 1 ↔ OneR P lo hi den) := fun n h => by
   refine ⟨fun h1 => .inr ⟨by omega, c0, cs, hP.symm, by rw [hP, hD]; omega⟩, fun h1 => ?_⟩
   rcases h1 with ⟨h1, -⟩ | ⟨-, d0, ds, e, h1⟩
   ·omega
   ·rw [← hP] at e
    cases e
    rw [hP, hD] at h1
    omega
  rw [hP]
  refine ⟨fun m s => ∃ (i k : Nat) (v w : PV) (σ : List StB) (T : List PV), s = ⟨T, σ, k⟩ /\ Gr pIs 22 v σ ((P.take i).map fun c => [c]) /\ Gr pIs 22 w σ ((D.take (i - 1)).map fun c => [c]) /\ (∀ j, blkOf v = some j -> blkOf w ≠ some j) /\ σ[0]? = some (.live 46 [pIs P, pn lo, pn hi, pn den]) /\ blkOf v ≠ some 0 /\ blkOf w ≠ some 0 ∧
   T.length = 121 /\ T.getD 1 undefP = .optr 0 0 /\ T.getD 3 undefP = v /\ T.getD 4 undefP = w /\ T.getD 5 undefP = pn (i : Int) /\ m = P.length - i /\ i <= P.length /\ k <= 1 + 10 * i, ⟨P.length, ?_⟩, ?_⟩
  ·exact ci ⟨0, _, _, _, _, _, rfl, Gr.nil, Gr.nil, fun j h => (by cases h), rfl, fun h => (by cases h), fun h => (by cases h), rfl, rfl, rfl, rfl, rfl, rfl, Nat.zero_le _, by omega⟩
  ·rintro m s ⟨i, k, v, w, σ, T, rfl, hv, hw, hvw, hb0, hv0, hw0, hTl, h1t, h3t, h4t, h5t, hm, hiP, hk⟩
   obtain ⟨J, rfl⟩ : ∃ J : Nat -> PV, T = [J 0, .optr 0 0, J 2, v, w, pn (i : Int), J 6, J 7, J 8, J 9, J 10, J 11, J 12, J 13, J 14, J 15, J 16, J 17, J 18, J 19, J 20, J 21, J 22, J 23, J 24, J 25, J 26, J 27, J 28, J 29, J 30, J 31, J 32, J 33, J 34, J 35, J 36, J 37, J 38, J 39, J 40, J 41, J 42, J 43, J 44, J 45, J 46, J 47, J 48, J 49, J 50, J 51, J 52, J 53, J 54, J 55, J 56, J 57, J 58, J 59, J 60, J 61, J 62, J 63, J 64, J 65, J 66, J 67, J 68, J 69, J 70, J 71, J 72, J 73, J 74, J 75, J 76, J 77, J 78, J 79, J 80, J 81, J 82, J 83, J 84, J 85, J 86, J 87, J 88, J 89, J 90, J 91, J 92, J 93, J 94, J 95, J 96, J 97, J 98, J 99, J 100, J 101, J 102, J 103, J 104, J 105, J 106, J 107, J 108, J 109, J 110, J 111, J 112, J 113, J 114, J 115, J 116, J 117, J 118, J 119, J 120] := ⟨fun i => T.getD i undefP, (pex121 T hTl).trans (by rw [h1t, h3t, h4t, h5t])⟩
   clear hTl h1t h3t h4t h5t
   have lb : ∀ {σ : List StB} {q o : Nat} {x : PV}, σ[0]? = some (.live 46 [pIs P, pn lo, pn hi, pn den]) -> [pIs P, pn lo, pn hi, pn den][q]? = some x -> o = q -> ploadE (ctx.plus S) σ 22 (.optr 0 o) = some x := fun h h1 h2 => load_k rfl rfl (contOf_live h) h1 h2
   refine ⟨_, lb hb0 rfl rfl, ?_⟩
   refine ⟨fun hlt => ?_, fun hge => ?_⟩
   ·obtain ⟨c, hci⟩ : ∃ c, P[i]? = some c := ⟨P[i]'(by omega), List.getElem?_eq_getElem _⟩
    have hcB := hc c (List.mem_of_getElem? hci)
    have hli : (P.take i).length = i := by simp; omega
    refine ⟨_, lb hb0 rfl rfl, ?_⟩
    refine ⟨⟨⟨by omega, by omega⟩, len_map_le (by omega)⟩, ?_⟩
    refine ⟨_, ld (at_map hci) (by show _ * 1 = _; omega), ?_⟩
    refine ⟨by omega, [pn c], rfl, ?_⟩
    refine ⟨by omega, 3, [pn c], [pn c], push_cont, ⟨by show 0 + 1 * 1 <= 1; omega, by decide⟩, rfl, [pIs [c]], rfl, ?_⟩
    have hv2 : Gr pIs 22 v ((σ ++ [StB.live 3 [pn c]]).set σ.length (StB.frz 3 [pn c]) ++ [StB.live 22 [pIs [c]]]) ((P.take i).map fun c => [c]) := hv.keep fun j b _ h => mid_get h
    have hw2 : Gr pIs 22 w ((σ ++ [StB.live 3 [pn c]]).set σ.length (StB.frz 3 [pn c]) ++ [StB.live 22 [pIs [c]]]) ((D.take (i - 1)).map fun c => [c]) := hw.keep fun j b _ h => mid_get h
    have hb2 := mid_get (b := StB.live 3 [pn c]) (b' := StB.frz 3 [pn c]) (b'' := StB.live 22 [pIs [c]]) hb0
    have hlen2 : ((σ ++ [StB.live 3 [pn c]]).set σ.length (StB.frz 3 [pn c]) ++ [StB.live 22 [pIs [c]]]).length = σ.length + 2 := by simp
    have hσ0 := (List.getElem?_eq_some_iff.1 hb0).1
    refine appG (f := pIs) (e := 22) (y := [c]) hv2 push_cont rfl rfl rfl rfl (by kernel_rfl) rfl rfl (by simp; omega) (by omega) fun v' σ' hv' hk' hbv' => ?_
    have hv'' : Gr pIs 22 v' σ' ((P.take (i + 1)).map fun c => [c]) := by
     rw [take_snoc hci, List.map_append]; exact hv'
    have hw' : Gr pIs 22 w σ' ((D.take (i - 1)).map fun c => [c]) := hw2.keep fun j b hj h => hk' j b (fun e => hvw j e hj) h
    have hb' := hk' 0 _ hv0 hb2
    have hwlt : ∀ j, blkOf w = some j -> j < σ.length := fun j hj => hw.blk hj
    rw [hlen2] at hbv'
    refine ⟨fun hpos => ?_, fun hz => ?_⟩
    ·have hDi := hDg i c (by omega) hci
     have hxb : -4000 <= (i : Int) * c /\ (i : Int) * c <= 4000 := hd4 _ (List.mem_of_getElem? hDi)
     refine ⟨_, lb hb' rfl rfl, ?_⟩
     refine ⟨⟨⟨by omega, by omega⟩, len_map_le (by omega)⟩, ?_⟩
     refine ⟨_, ld (at_map hci) (by show _ * 1 = _; omega), ?_⟩
     refine ⟨⟨by omega, by omega⟩, ?_⟩
     refine ⟨by omega, [pn ((i : Int) * c)], rfl, ?_⟩
     refine ⟨by omega, 3, [pn ((i : Int) * c)], [pn ((i : Int) * c)], push_cont, ⟨by show 0 + 1 * 1 <= 1; omega, by decide⟩, rfl, [pIs [(i : Int) * c]], rfl, ?_⟩
     have hv3 : Gr pIs 22 v' ((σ' ++ [StB.live 3 [pn ((i : Int) * c)]]).set σ'.length (StB.frz 3 [pn ((i : Int) * c)]) ++ [StB.live 22 [pIs [(i : Int) * c]]]) ((P.take (i + 1)).map fun c => [c]) := hv''.keep fun j b _ h => mid_get h
     have hw3 : Gr pIs 22 w ((σ' ++ [StB.live 3 [pn ((i : Int) * c)]]).set σ'.length (StB.frz 3 [pn ((i : Int) * c)]) ++ [StB.live 22 [pIs [(i : Int) * c]]]) ((D.take (i - 1)).map fun c => [c]) := hw'.keep fun j b _ h => mid_get h
     have hb3 := mid_get (b := StB.live 3 [pn ((i : Int) * c)]) (b' := StB.frz 3 [pn ((i : Int) * c)]) (b'' := StB.live 22 [pIs [(i : Int) * c]]) hb'
     have hlen3 : ((σ' ++ [StB.live 3 [pn ((i : Int) * c)]]).set σ'.length (StB.frz 3 [pn ((i : Int) * c)]) ++ [StB.live 22 [pIs [(i : Int) * c]]]).length = σ'.length + 2 := by simp
     have hvlt : σ.length + 2 < σ'.length := hv''.blk hbv'
     refine appG (f := pIs) (e := 22) (y := [(i : Int) * c]) hw3 push_cont rfl rfl rfl rfl (by kernel_rfl) rfl rfl (by simp; omega) (by omega) fun w' σ'' hw4 hk'' hbw' => ?_
     rw [hlen3] at hbw'
     have hw5 : Gr pIs 22 w' σ'' ((D.take i).map fun c => [c]) := by
      have e : D.take i = D.take (i - 1) ++ [(i : Int) * c] := by
       have := take_snoc hDi
       rwa [show i - 1 + 1 = i by omega] at this
      rw [e, List.map_append]; exact hw4
     refine ⟨⟨by omega, by omega⟩, ?_⟩
     refine ⟨P.length - (i + 1), by omega, ci ⟨i + 1, _, v', w', σ'', _, rfl, hv3.keep fun j b hj h => hk'' j b (fun e => ?_) h, hw5, fun j h1 h2 => ?_, hk'' 0 _ hw0 hb3, fun e => ?_, fun e => ?_, rfl, rfl, rfl, rfl, rfl, rfl, by omega, by omega⟩⟩
     ·have := hwlt j e
      rw [hbv'] at hj; have := Option.some.inj hj; omega
     ·rw [hbv'] at h1; rw [hbw'] at h2; have := Option.some.inj h1; have := Option.some.inj h2; omega
     ·rw [hbv'] at e; have := Option.some.inj e; omega
     ·rw [hbw'] at e; have := Option.some.inj e; omega
    ·have hi0 : i = 0 := by omega
     subst hi0
     refine ⟨⟨by omega, by omega⟩, ?_⟩
     refine ⟨P.length - (0 + 1), by omega, ci ⟨0 + 1, _, v', w, σ', _, rfl, hv'', hw', fun j h1 h2 => ?_, hb', fun e => ?_, hw0, rfl, rfl, rfl, rfl, rfl, rfl, by omega, by omega⟩⟩
     ·have := hwlt j h2
      rw [hbv'] at h1; have := Option.some.inj h1; omega
     ·rw [hbv'] at e; have := Option.some.inj e; omega
   ·have hin : i = P.length := by omega
    subst hin
    rw [List.take_length] at hv
    rw [List.take_of_length_le (by omega)] at hw
    obtain ⟨σ1, f1, f2, f3, f4⟩ := hv.cn.fz
    obtain ⟨σ2, g1, g2, g3, g4⟩ := (hw.cn.same f2).fz
    have hb2 := g4 0 _ hw0 (f4 0 _ hv0 hb0)
    refine ⟨by omega, part2 f1 g1 ⟨[pQ (P.map fun c => [c]), pQ (D.map fun c => [c])], rfl, ?_⟩⟩
    refine ⟨fun m s => ∃ (pre : List (List Int)) (p q : List Int) (Zs : List (List (List Int))) (n ep eq k : Nat) (v : PV) (σ0 : List StB) (T : List PV),
     s = ⟨T, σ0, k⟩ /\ T.length = 121 /\ T.getD 1 undefP = .optr 0 0 /\ T.getD 6 undefP = v /\ m = q.length /\ chR cs.length P D = pre ++ chR n p q /\ q.length <= n /\ Siz p.length q.length ep eq /\ B2s ep p /\ B2s eq q /\ q.length + pre.length <= 4 /\ k <= 1000 + 3000000000 * pre.length ∧
      All2 (All2 Rw) Zs (pre ++ [p, q]) /\ Gr pQ 202 v σ0 Zs /\ σ0[0]? = some (.live 46 [pIs P, pn lo, pn hi, pn den]) /\ blkOf v ≠ some 0, ⟨D.length, ?_⟩, ?_⟩
    ·exact ci ⟨[], P, D, [P.map fun c => [c], D.map fun c => [c]], cs.length, ep0, eq0, _, .own σ2.length 0 2 2 1, _, _, rfl, rfl, rfl, rfl, rfl, rfl, by omega, hz0, hB0, hB1, by simp; omega, by simp; omega,
      .cons (ones_rw fun x hx => by have := hc x hx; omega) (.cons (ones_rw fun x hx => by have := hd4 x hx; omega) .nil), .inr (.inl ⟨σ2.length, 202, rfl, push_cont⟩), push_old hb2, fun e => by
       have h0 := (List.getElem?_eq_some_iff.1 hb2).1
       have : σ2.length = 0 := by simpa [blkOf] using e
       omega⟩
    ·rintro m s ⟨pre, p, q, Zs, n, ep, eq, k, v, σ0, T, rfl, hTl, h1t, h6t, hm, hch, hn, hz, hp, hq, hpre, hk, hZ, hg, hb0, hv0⟩
     obtain ⟨J, rfl⟩ : ∃ J : Nat -> PV, T = [J 0, .optr 0 0, J 2, J 3, J 4, J 5, v, J 7, J 8, J 9, J 10, J 11, J 12, J 13, J 14, J 15, J 16, J 17, J 18, J 19, J 20, J 21, J 22, J 23, J 24, J 25, J 26, J 27, J 28, J 29, J 30, J 31, J 32, J 33, J 34, J 35, J 36, J 37, J 38, J 39, J 40, J 41, J 42, J 43, J 44, J 45, J 46, J 47, J 48, J 49, J 50, J 51, J 52, J 53, J 54, J 55, J 56, J 57, J 58, J 59, J 60, J 61, J 62, J 63, J 64, J 65, J 66, J 67, J 68, J 69, J 70, J 71, J 72, J 73, J 74, J 75, J 76, J 77, J 78, J 79, J 80, J 81, J 82, J 83, J 84, J 85, J 86, J 87, J 88, J 89, J 90, J 91, J 92, J 93, J 94, J 95, J 96, J 97, J 98, J 99, J 100, J 101, J 102, J 103, J 104, J 105, J 106, J 107, J 108, J 109, J 110, J 111, J 112, J 113, J 114, J 115, J 116, J 117, J 118, J 119, J 120] := ⟨fun i => T.getD i undefP, (pex121 T hTl).trans (by rw [h1t, h6t])⟩
     clear hTl h1t h6t
     obtain ⟨z1, z2, z3, z4, z5, z6⟩ := hz.le
     obtain ⟨Ls, hLs⟩ : ∃ Ls, pre ++ [p, q] = Ls := ⟨_, rfl⟩
     rw [hLs] at hZ
     have hZl := hZ.length
     have hLl : Ls.length = pre.length + 2 := by rw [← hLs]; simp
     obtain ⟨Zp, hZp, hZpr⟩ := All2.get2 hZ (show Ls[Ls.length - 2]? = some p by rw [← hLs]; simp)
     obtain ⟨Zq, hZq, hZqr⟩ := All2.get2 hZ (show Ls[Ls.length - 1]? = some q by rw [← hLs]; simp)
     have hrest := rest_ct S hR hF.h196 hF.h236 hZpr hZqr hp hq (by omega) (by omega) (by omega) (by omega) (by omega)
     have hRl := remR_len (q := q) (by omega) p.length (p := p) (Nat.le_refl _)
     have hRB := remR_bd hq (by omega) p.length hp
     have hRe : remR p.length p q = [] -> chR cs.length P D = Ls := fun h => by
      rw [hch, ← hLs]
      cases n with
      | zero => rfl
      | succ n => simp only [chR, h]
     have hRn : remR p.length p q ≠ [] -> chR cs.length P D = (pre ++ [p]) ++ chR (n - 1) q ((remR p.length p q).map fun x => -x) := fun h => by
      rw [hch]
      cases n with
      | zero => omega
      | succ n =>
       simp only [chR]
       cases hx : remR p.length p q with
       | nil => exact absurd hx h
       | cons r rs => simp
     generalize remR p.length p q = R at hrest hRl hRB hRe hRn
     have hLmem : chR cs.length P D = Ls -> ∀ L ∈ Ls, B2s 4730 L /\ L.length <= 5 := fun h L hL => chR_mem cs.length hz0 hB0 hB1 L (by rw [h]; exact hL)
     have hcases : (∃ jj ty, v = .own jj 0 Zs.length Zs.length 1 /\ contOf σ0 jj = some (ty, Zs.map pQ)) ∨ (∃ jj, v = .ownu jj Zs.length 1 /\ σ0[jj]? = some (.live 202 (Zs.map pQ))) := by
      rcases hg with ⟨-, h⟩ | h | h
      ·rw [h] at hZl; simp at hZl; omega
      ·exact .inl h
      ·exact .inr h
     rcases hcases with ⟨jj, ty, rfl, hj⟩ | ⟨jj, rfl, hj⟩
     ·refine ⟨by kernel_rfl, ?_⟩
      refine ⟨⟨by omega, by omega⟩, ?_⟩
      refine ⟨⟨by omega, by omega⟩, ?_⟩
      refine ⟨_, load_k rfl rfl (hj) (at_map hZp) (by show 0 + _ * 1 = _; omega), rfl, ?_⟩
      refine ⟨⟨by omega, by omega⟩, ?_⟩
      refine ⟨⟨by omega, by omega⟩, ?_⟩
      refine ⟨_, load_k rfl rfl (hj) (at_map hZq) (by show 0 + _ * 1 = _; omega), rfl, ?_⟩
      refine callq rfl hrest (by omega) ?_
      rintro _ ⟨Ws, hWs, rfl⟩
      have hWl := hWs.length
      refine ⟨fun h0 => ?_, fun h1 => ?_⟩
      ·have hR0 : R = [] := List.eq_nil_of_length_eq_zero (by omega)
       have hfin := hRe hR0
       have hmem := hLmem hfin
       have hll : Ls.length <= 6 := by omega
       have hv1 := varR_bd (sgs lo den Ls) 0
       have hv2 := varR_bd (sgs hi den Ls) 0
       have hs1 : (sgs lo den Ls).length <= 6 := by simp [sgs]; omega
       have hs2 : (sgs hi den Ls).length <= 6 := by simp [sgs]; omega
       have rlo : Rw [lo] lo := Rw.one (by omega)
       have rhi : Rw [hi] hi := Rw.one (by omega)
       have rden : Rw [den] den := Rw.one (by omega)
       have two : ∀ (σ : List StB) (x : Int), (∀ j, contOf σ j = contOf σ j) -> Cn pQ (.own jj 0 Zs.length Zs.length 1) σ Zs -> contOf σ 0 = some (46, [pIs P, pn lo, pn hi, pn den]) -> ∃ σ3,
         (∃ σ1 σ2, Fz (.own jj 0 Zs.length Zs.length 1) ((σ ++ [.live 3 [pn x]]) ++ [.live 3 [pn den]]) (pCs Zs) σ1 /\ Fz (.own σ.length 0 1 1 1) σ1 (pIs [x]) σ2 /\ Fz (.own (σ ++ [StB.live 3 [pn x]]).length 0 1 1 1) σ2 (pIs [den]) σ3) /\ Cn pQ (.own jj 0 Zs.length Zs.length 1) σ3 Zs /\ contOf σ3 0 = some (46, [pIs P, pn lo, pn hi, pn den]) := fun σ x _ hcn h0 => by
        obtain ⟨σ1, f1, f2, f3, -⟩ := (hcn.push (b := .live 3 [pn x])).push (b := .live 3 [pn den]) |>.fz
        have c1 : contOf σ1 σ.length = some (3, [pn x]) := by rw [f2]; exact contOf_app push_cont
        have c2 : contOf (σ1.set σ.length (.frz 3 [pn x])) (σ ++ [StB.live 3 [pn x]]).length = some (3, [pn den]) := by rw [contOf_set c1, f2]; exact push_cont
        have hc : ∀ j, contOf ((σ1.set σ.length (.frz 3 [pn x])).set (σ ++ [StB.live 3 [pn x]]).length (.frz 3 [pn den])) j = contOf ((σ ++ [.live 3 [pn x]]) ++ [.live 3 [pn den]]) j := fun j => by rw [contOf_set c2, contOf_set c1, f2]
        exact ⟨_, ⟨σ1, _, f1, fun K hK => ⟨3, _, _, c1, ⟨by simp, by omega⟩, rfl, hK⟩, fun K hK => ⟨3, _, _, c2, ⟨by simp, by omega⟩, rfl, hK⟩⟩, (hcn.push.push).same hc, by rw [hc]; exact contOf_app (contOf_app h0)⟩
       obtain ⟨σ3, ⟨σ1, σ2, f1, f2, f3⟩, hcn3, hb3⟩ := two σ0 lo (fun _ => rfl) hg.cn (contOf_live hb0)
       obtain ⟨σ6, ⟨σ4, σ5, f4, f5, f6⟩, -, -⟩ := two σ3 hi (fun _ => rfl) hcn3 hb3
       refine ⟨by kernel_rfl, ?_⟩
       refine ⟨_, load_k rfl rfl (contOf_live hb0) (q := 1) rfl rfl, rfl, ?_⟩
       refine ⟨by omega, [pn lo], rfl, ?_⟩
       refine ⟨_, load_k rfl rfl (contOf_app (contOf_live hb0)) (q := 3) rfl rfl, rfl, ?_⟩
       refine ⟨by omega, [pn den], rfl, ?_⟩
       refine cal3 f1 f2 f3 (changes_ct S hR hF.h197 hF.h221 (a := lo) (b := den) hZ rlo rden hlo (by omega) hmem hll) (by omega) ?_
       rintro _ rfl
       refine ⟨_, load_k rfl rfl hb3 (q := 2) rfl rfl, rfl, ?_⟩
       refine ⟨by omega, [pn hi], rfl, ?_⟩
       refine ⟨_, load_k rfl rfl (contOf_app hb3) (q := 3) rfl rfl, rfl, ?_⟩
       refine ⟨by omega, [pn den], rfl, ?_⟩
       refine cal3 f4 f5 f6 (changes_ct S hR hF.h197 hF.h221 (a := hi) (b := den) hZ rhi rden hhi (by omega) hmem hll) (by omega) ?_
       rintro _ rfl
       refine ⟨⟨by omega, by omega⟩, ?_⟩
       exact endq rfl ⟨_, rfl, hgoal _ (by rw [hfin])⟩
      ·have hR1 : R ≠ [] := fun h => h1 (by have := hWl; rw [h] at this; simp at this; rw [this]; rfl)
       have hRpos : 1 <= R.length := List.length_pos_iff.2 hR1
       refine ⟨fun m s => ∃ (i k' : Nat) (v8 : PV) (σ : List StB) (T : List PV), s = ⟨T, σ, k'⟩ /\ Gr pI 22 v8 σ ((R.map fun x => -x).take i) /\ Gr pQ 202 (.own jj 0 Zs.length Zs.length 1) σ Zs /\ (∀ j, blkOf v8 = some j -> blkOf (.own jj 0 Zs.length Zs.length 1) ≠ some j) /\ σ[0]? = some (.live 46 [pIs P, pn lo, pn hi, pn den]) /\ blkOf v8 ≠ some 0 ∧
        T.length = 121 /\ T.getD 1 undefP = .optr 0 0 /\ T.getD 6 undefP = .own jj 0 Zs.length Zs.length 1 /\ T.getD 7 undefP = pQ Ws /\ T.getD 8 undefP = v8 /\ T.getD 9 undefP = pn (i : Int) /\ m = R.length - i /\ i <= R.length /\ k' <= k + 2000000000 + 200000 * i, ⟨R.length, ?_⟩, ?_⟩
       ·exact ci ⟨0, _, _, _, _, rfl, Gr.nil, hg, fun j h => (by cases h), hb0, fun h => (by cases h), rfl, rfl, rfl, rfl, rfl, rfl, rfl, Nat.zero_le _, by omega⟩
       ·rintro m2 s ⟨i, k', v8, σ, T, rfl, hg8, hgc, hdis, hbb, h80, hTl, h1t, h6t, h7t, h8t, h9t, hm2, hiR, hk'⟩
        obtain ⟨J2, rfl⟩ : ∃ J : Nat -> PV, T = [J 0, .optr 0 0, J 2, J 3, J 4, J 5, .own jj 0 Zs.length Zs.length 1, pQ Ws, v8, pn (i : Int), J 10, J 11, J 12, J 13, J 14, J 15, J 16, J 17, J 18, J 19, J 20, J 21, J 22, J 23, J 24, J 25, J 26, J 27, J 28, J 29, J 30, J 31, J 32, J 33, J 34, J 35, J 36, J 37, J 38, J 39, J 40, J 41, J 42, J 43, J 44, J 45, J 46, J 47, J 48, J 49, J 50, J 51, J 52, J 53, J 54, J 55, J 56, J 57, J 58, J 59, J 60, J 61, J 62, J 63, J 64, J 65, J 66, J 67, J 68, J 69, J 70, J 71, J 72, J 73, J 74, J 75, J 76, J 77, J 78, J 79, J 80, J 81, J 82, J 83, J 84, J 85, J 86, J 87, J 88, J 89, J 90, J 91, J 92, J 93, J 94, J 95, J 96, J 97, J 98, J 99, J 100, J 101, J 102, J 103, J 104, J 105, J 106, J 107, J 108, J 109, J 110, J 111, J 112, J 113, J 114, J 115, J 116, J 117, J 118, J 119, J 120] := ⟨fun i => T.getD i undefP, (pex121 T hTl).trans (by rw [h1t, h6t, h7t, h8t, h9t])⟩
        clear hTl h1t h6t h7t h8t h9t
        have hclt : ∀ j, blkOf (.own jj 0 Zs.length Zs.length 1) = some j -> j < σ.length := fun j hj => hgc.blk hj
        refine ⟨fun hlt => ?_, fun hge => ?_⟩
        ·obtain ⟨xs, hWi, hWr⟩ := rw_get hWs (i := i) (by omega)
         obtain ⟨x, hx⟩ : ∃ x, R.getD i 0 = x := ⟨_, rfl⟩
         have hRi : R[i]? = some x := by rw [← hx]; exact get_at (by omega)
         rw [hx] at hWr
         have hni : (R.map fun x => -x)[i]? = some (-x) := by simp [hRi]
         refine ⟨⟨⟨by omega, by omega⟩, len_map_le (by omega)⟩, ?_⟩
         refine ⟨_, ld (at_map hWi) (by show _ * 1 = _; omega), ?_⟩
         refine callq rfl (rneg_ct S hR hWr) (by omega) ?_
         rintro _ rfl
         refine ⟨by omega, [pI (-x)], rfl, ?_⟩
         have hb2 : (σ ++ [StB.live 22 [pI (-x)]])[0]? = some (.live 46 [pIs P, pn lo, pn hi, pn den]) := push_old hbb
         have hσ0 := (List.getElem?_eq_some_iff.1 hbb).1
         refine appG (f := pI) (e := 22) (y := -x) hg8.push push_cont rfl rfl rfl rfl (by kernel_rfl) rfl rfl (by simp; omega) (by omega) fun v' σ' hv' hk2 hbv' => ?_
         have hlen2 : (σ ++ [StB.live 22 [pI (-x)]]).length = σ.length + 1 := by simp
         rw [hlen2] at hbv'
         refine ⟨⟨by omega, by omega⟩, ?_⟩
         refine ⟨R.length - (i + 1), by omega, ci ⟨i + 1, _, v', σ', _, rfl, by rw [take_snoc hni]; exact hv', hgc.push.keep fun j b hj h => hk2 j b (fun e => hdis j e hj) h, fun j h1 h2 => ?_, hk2 0 _ h80 hb2, fun e => ?_, rfl, rfl, rfl, rfl, rfl, rfl, rfl, by omega, by omega⟩⟩
         ·have := hclt j h2
          rw [hbv'] at h1; have := Option.some.inj h1; omega
         ·rw [hbv'] at e; have := Option.some.inj e; omega
        ·have hin : i = R.length := by omega
         subst hin
         rw [List.take_of_length_le (by simp)] at hg8
         obtain ⟨σ1, f1, f2, f3, f4⟩ := hg8.cn.fz
         have hpq : PV.lst (R.map fun x => -x).length ((R.map fun x => -x).map pI) = pQ ((R.map fun x => -x).map digits) := by rw [pQ_digits]; rfl
         rw [hpq] at f1
         have hb1 := f4 0 _ h80 hbb
         have hgc1 : Gr pQ 202 (.own jj 0 Zs.length Zs.length 1) σ1 Zs := hgc.keep fun j b hj h => f4 j b (fun e => hdis j e hj) h
         have hLs2 : pre ++ [p] ++ [q, R.map fun x => -x] = Ls ++ [R.map fun x => -x] := by rw [← hLs]; simp
         obtain ⟨ep', eq', z7, z8, z9⟩ := hz.next hRpos hRl
         have hnb : B2s eq' (R.map fun x => -x) := (hRB.mono (by omega)).map_neg
         have hz7 := z7.le
         refine ⟨by omega, part1 f1 ⟨[pQ ((R.map fun x => -x).map digits)], rfl, ?_⟩⟩
         have hb2 : (σ1 ++ [StB.live 202 [pQ ((R.map fun x => -x).map digits)]])[0]? = some (.live 46 [pIs P, pn lo, pn hi, pn den]) := push_old hb1
         have hσ0 := (List.getElem?_eq_some_iff.1 hb1).1
         refine appG (f := pQ) (e := 202) (y := (R.map fun x => -x).map digits) hgc1.push push_cont rfl rfl rfl rfl (by kernel_rfl) rfl rfl (by omega) (by omega) fun v' σ' hv' hk2 hbv' => ?_
         have hlen2 : (σ1 ++ [StB.live 202 [pQ ((R.map fun x => -x).map digits)]]).length = σ1.length + 1 := by simp
         rw [hlen2] at hbv'
         refine ⟨R.length, by omega, ci ⟨pre ++ [p], q, R.map fun x => -x, Zs ++ [(R.map fun x => -x).map digits], n - 1, ep', eq', _, v', σ', _, rfl, rfl, rfl, rfl, by simp, hRn hR1, by simp; omega, by rw [List.length_map]; exact z7, hq.mono z8, hnb, by simp; omega, by simp; omega, ?_, hv', hk2 0 _ hv0 hb2, fun e => ?_⟩⟩
         ·rw [hLs2]
          exact hZ.append (.cons (rws_digits fun x hx => by have := digits_B2 (hnb x hx) (by omega); omega) .nil)
         ·rw [hbv'] at e; have := Option.some.inj e; omega
     ·refine ⟨by kernel_rfl, ?_⟩
      refine ⟨⟨by omega, by omega⟩, ?_⟩
      refine ⟨⟨by omega, by omega⟩, ?_⟩
      refine ⟨_, load_k rfl rfl (contOf_live hj) (at_map hZp) (by show 0 + _ * 1 = _; omega), rfl, ?_⟩
      refine ⟨⟨by omega, by omega⟩, ?_⟩
      refine ⟨⟨by omega, by omega⟩, ?_⟩
      refine ⟨_, load_k rfl rfl (contOf_live hj) (at_map hZq) (by show 0 + _ * 1 = _; omega), rfl, ?_⟩
      refine callq rfl hrest (by omega) ?_
      rintro _ ⟨Ws, hWs, rfl⟩
      have hWl := hWs.length
      refine ⟨fun h0 => ?_, fun h1 => ?_⟩
      ·have hR0 : R = [] := List.eq_nil_of_length_eq_zero (by omega)
       have hfin := hRe hR0
       have hmem := hLmem hfin
       have hll : Ls.length <= 6 := by omega
       have hv1 := varR_bd (sgs lo den Ls) 0
       have hv2 := varR_bd (sgs hi den Ls) 0
       have hs1 : (sgs lo den Ls).length <= 6 := by simp [sgs]; omega
       have hs2 : (sgs hi den Ls).length <= 6 := by simp [sgs]; omega
       have rlo : Rw [lo] lo := Rw.one (by omega)
       have rhi : Rw [hi] hi := Rw.one (by omega)
       have rden : Rw [den] den := Rw.one (by omega)
       have two : ∀ (σ : List StB) (x : Int), (∀ j, contOf σ j = contOf σ j) -> Cn pQ (.ownu jj Zs.length 1) σ Zs -> contOf σ 0 = some (46, [pIs P, pn lo, pn hi, pn den]) -> ∃ σ3,
         (∃ σ1 σ2, Fz (.ownu jj Zs.length 1) ((σ ++ [.live 3 [pn x]]) ++ [.live 3 [pn den]]) (pCs Zs) σ1 /\ Fz (.own σ.length 0 1 1 1) σ1 (pIs [x]) σ2 /\ Fz (.own (σ ++ [StB.live 3 [pn x]]).length 0 1 1 1) σ2 (pIs [den]) σ3) /\ Cn pQ (.ownu jj Zs.length 1) σ3 Zs /\ contOf σ3 0 = some (46, [pIs P, pn lo, pn hi, pn den]) := fun σ x _ hcn h0 => by
        obtain ⟨σ1, f1, f2, f3, -⟩ := (hcn.push (b := .live 3 [pn x])).push (b := .live 3 [pn den]) |>.fz
        have c1 : contOf σ1 σ.length = some (3, [pn x]) := by rw [f2]; exact contOf_app push_cont
        have c2 : contOf (σ1.set σ.length (.frz 3 [pn x])) (σ ++ [StB.live 3 [pn x]]).length = some (3, [pn den]) := by rw [contOf_set c1, f2]; exact push_cont
        have hc : ∀ j, contOf ((σ1.set σ.length (.frz 3 [pn x])).set (σ ++ [StB.live 3 [pn x]]).length (.frz 3 [pn den])) j = contOf ((σ ++ [.live 3 [pn x]]) ++ [.live 3 [pn den]]) j := fun j => by rw [contOf_set c2, contOf_set c1, f2]
        exact ⟨_, ⟨σ1, _, f1, fun K hK => ⟨3, _, _, c1, ⟨by simp, by omega⟩, rfl, hK⟩, fun K hK => ⟨3, _, _, c2, ⟨by simp, by omega⟩, rfl, hK⟩⟩, (hcn.push.push).same hc, by rw [hc]; exact contOf_app (contOf_app h0)⟩
       obtain ⟨σ3, ⟨σ1, σ2, f1, f2, f3⟩, hcn3, hb3⟩ := two σ0 lo (fun _ => rfl) hg.cn (contOf_live hb0)
       obtain ⟨σ6, ⟨σ4, σ5, f4, f5, f6⟩, -, -⟩ := two σ3 hi (fun _ => rfl) hcn3 hb3
       refine ⟨by kernel_rfl, ?_⟩
       refine ⟨_, load_k rfl rfl (contOf_live hb0) (q := 1) rfl rfl, rfl, ?_⟩
       refine ⟨by omega, [pn lo], rfl, ?_⟩
       refine ⟨_, load_k rfl rfl (contOf_app (contOf_live hb0)) (q := 3) rfl rfl, rfl, ?_⟩
       refine ⟨by omega, [pn den], rfl, ?_⟩
       refine cal3 f1 f2 f3 (changes_ct S hR hF.h197 hF.h221 (a := lo) (b := den) hZ rlo rden hlo (by omega) hmem hll) (by omega) ?_
       rintro _ rfl
       refine ⟨_, load_k rfl rfl hb3 (q := 2) rfl rfl, rfl, ?_⟩
       refine ⟨by omega, [pn hi], rfl, ?_⟩
       refine ⟨_, load_k rfl rfl (contOf_app hb3) (q := 3) rfl rfl, rfl, ?_⟩
       refine ⟨by omega, [pn den], rfl, ?_⟩
       refine cal3 f4 f5 f6 (changes_ct S hR hF.h197 hF.h221 (a := hi) (b := den) hZ rhi rden hhi (by omega) hmem hll) (by omega) ?_
       rintro _ rfl
       refine ⟨⟨by omega, by omega⟩, ?_⟩
       exact endq rfl ⟨_, rfl, hgoal _ (by rw [hfin])⟩
      ·have hR1 : R ≠ [] := fun h => h1 (by have := hWl; rw [h] at this; simp at this; rw [this]; rfl)
       have hRpos : 1 <= R.length := List.length_pos_iff.2 hR1
       refine ⟨fun m s => ∃ (i k' : Nat) (v8 : PV) (σ : List StB) (T : List PV), s = ⟨T, σ, k'⟩ /\ Gr pI 22 v8 σ ((R.map fun x => -x).take i) /\ Gr pQ 202 (.ownu jj Zs.length 1) σ Zs /\ (∀ j, blkOf v8 = some j -> blkOf (.ownu jj Zs.length 1) ≠ some j) /\ σ[0]? = some (.live 46 [pIs P, pn lo, pn hi, pn den]) /\ blkOf v8 ≠ some 0 ∧
        T.length = 121 /\ T.getD 1 undefP = .optr 0 0 /\ T.getD 6 undefP = .ownu jj Zs.length 1 /\ T.getD 7 undefP = pQ Ws /\ T.getD 8 undefP = v8 /\ T.getD 9 undefP = pn (i : Int) /\ m = R.length - i /\ i <= R.length /\ k' <= k + 2000000000 + 200000 * i, ⟨R.length, ?_⟩, ?_⟩
       ·exact ci ⟨0, _, _, _, _, rfl, Gr.nil, hg, fun j h => (by cases h), hb0, fun h => (by cases h), rfl, rfl, rfl, rfl, rfl, rfl, rfl, Nat.zero_le _, by omega⟩
       ·rintro m2 s ⟨i, k', v8, σ, T, rfl, hg8, hgc, hdis, hbb, h80, hTl, h1t, h6t, h7t, h8t, h9t, hm2, hiR, hk'⟩
        obtain ⟨J2, rfl⟩ : ∃ J : Nat -> PV, T = [J 0, .optr 0 0, J 2, J 3, J 4, J 5, .ownu jj Zs.length 1, pQ Ws, v8, pn (i : Int), J 10, J 11, J 12, J 13, J 14, J 15, J 16, J 17, J 18, J 19, J 20, J 21, J 22, J 23, J 24, J 25, J 26, J 27, J 28, J 29, J 30, J 31, J 32, J 33, J 34, J 35, J 36, J 37, J 38, J 39, J 40, J 41, J 42, J 43, J 44, J 45, J 46, J 47, J 48, J 49, J 50, J 51, J 52, J 53, J 54, J 55, J 56, J 57, J 58, J 59, J 60, J 61, J 62, J 63, J 64, J 65, J 66, J 67, J 68, J 69, J 70, J 71, J 72, J 73, J 74, J 75, J 76, J 77, J 78, J 79, J 80, J 81, J 82, J 83, J 84, J 85, J 86, J 87, J 88, J 89, J 90, J 91, J 92, J 93, J 94, J 95, J 96, J 97, J 98, J 99, J 100, J 101, J 102, J 103, J 104, J 105, J 106, J 107, J 108, J 109, J 110, J 111, J 112, J 113, J 114, J 115, J 116, J 117, J 118, J 119, J 120] := ⟨fun i => T.getD i undefP, (pex121 T hTl).trans (by rw [h1t, h6t, h7t, h8t, h9t])⟩
        clear hTl h1t h6t h7t h8t h9t
        have hclt : ∀ j, blkOf (.ownu jj Zs.length 1) = some j -> j < σ.length := fun j hj => hgc.blk hj
        refine ⟨fun hlt => ?_, fun hge => ?_⟩
        ·obtain ⟨xs, hWi, hWr⟩ := rw_get hWs (i := i) (by omega)
         obtain ⟨x, hx⟩ : ∃ x, R.getD i 0 = x := ⟨_, rfl⟩
         have hRi : R[i]? = some x := by rw [← hx]; exact get_at (by omega)
         rw [hx] at hWr
         have hni : (R.map fun x => -x)[i]? = some (-x) := by simp [hRi]
         refine ⟨⟨⟨by omega, by omega⟩, len_map_le (by omega)⟩, ?_⟩
         refine ⟨_, ld (at_map hWi) (by show _ * 1 = _; omega), ?_⟩
         refine callq rfl (rneg_ct S hR hWr) (by omega) ?_
         rintro _ rfl
         refine ⟨by omega, [pI (-x)], rfl, ?_⟩
         have hb2 : (σ ++ [StB.live 22 [pI (-x)]])[0]? = some (.live 46 [pIs P, pn lo, pn hi, pn den]) := push_old hbb
         have hσ0 := (List.getElem?_eq_some_iff.1 hbb).1
         refine appG (f := pI) (e := 22) (y := -x) hg8.push push_cont rfl rfl rfl rfl (by kernel_rfl) rfl rfl (by simp; omega) (by omega) fun v' σ' hv' hk2 hbv' => ?_
         have hlen2 : (σ ++ [StB.live 22 [pI (-x)]]).length = σ.length + 1 := by simp
         rw [hlen2] at hbv'
         refine ⟨⟨by omega, by omega⟩, ?_⟩
         refine ⟨R.length - (i + 1), by omega, ci ⟨i + 1, _, v', σ', _, rfl, by rw [take_snoc hni]; exact hv', hgc.push.keep fun j b hj h => hk2 j b (fun e => hdis j e hj) h, fun j h1 h2 => ?_, hk2 0 _ h80 hb2, fun e => ?_, rfl, rfl, rfl, rfl, rfl, rfl, rfl, by omega, by omega⟩⟩
         ·have := hclt j h2
          rw [hbv'] at h1; have := Option.some.inj h1; omega
         ·rw [hbv'] at e; have := Option.some.inj e; omega
        ·have hin : i = R.length := by omega
         subst hin
         rw [List.take_of_length_le (by simp)] at hg8
         obtain ⟨σ1, f1, f2, f3, f4⟩ := hg8.cn.fz
         have hpq : PV.lst (R.map fun x => -x).length ((R.map fun x => -x).map pI) = pQ ((R.map fun x => -x).map digits) := by rw [pQ_digits]; rfl
         rw [hpq] at f1
         have hb1 := f4 0 _ h80 hbb
         have hgc1 : Gr pQ 202 (.ownu jj Zs.length 1) σ1 Zs := hgc.keep fun j b hj h => f4 j b (fun e => hdis j e hj) h
         have hLs2 : pre ++ [p] ++ [q, R.map fun x => -x] = Ls ++ [R.map fun x => -x] := by rw [← hLs]; simp
         obtain ⟨ep', eq', z7, z8, z9⟩ := hz.next hRpos hRl
         have hnb : B2s eq' (R.map fun x => -x) := (hRB.mono (by omega)).map_neg
         have hz7 := z7.le
         refine ⟨by omega, part1 f1 ⟨[pQ ((R.map fun x => -x).map digits)], rfl, ?_⟩⟩
         have hb2 : (σ1 ++ [StB.live 202 [pQ ((R.map fun x => -x).map digits)]])[0]? = some (.live 46 [pIs P, pn lo, pn hi, pn den]) := push_old hb1
         have hσ0 := (List.getElem?_eq_some_iff.1 hb1).1
         refine appG (f := pQ) (e := 202) (y := (R.map fun x => -x).map digits) hgc1.push push_cont rfl rfl rfl rfl (by kernel_rfl) rfl rfl (by omega) (by omega) fun v' σ' hv' hk2 hbv' => ?_
         have hlen2 : (σ1 ++ [StB.live 202 [pQ ((R.map fun x => -x).map digits)]]).length = σ1.length + 1 := by simp
         rw [hlen2] at hbv'
         refine ⟨R.length, by omega, ci ⟨pre ++ [p], q, R.map fun x => -x, Zs ++ [(R.map fun x => -x).map digits], n - 1, ep', eq', _, v', σ', _, rfl, rfl, rfl, rfl, by simp, hRn hR1, by simp; omega, by rw [List.length_map]; exact z7, hq.mono z8, hnb, by simp; omega, by simp; omega, ?_, hv', hk2 0 _ hv0 hb2, fun e => ?_⟩⟩
         ·rw [hLs2]
          exact hZ.append (.cons (rws_digits fun x hx => by have := digits_B2 (hnb x hx) (by omega); omega) .nil)
         ·rw [hbv'] at e; have := Option.some.inj e; omega
end Go.PI
