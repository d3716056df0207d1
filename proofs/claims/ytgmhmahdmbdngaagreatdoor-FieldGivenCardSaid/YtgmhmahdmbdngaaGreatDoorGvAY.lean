/- Own work of the verifier: PvRem. -/
import Derived.Test.YtgmhmahdmbdngaaGreatDoorGvAX
set_option linter.all false
set_option linter.deprecated false
open Go.Proofs
namespace Go.PI
open IM
set_option maxRecDepth 10000
set_option maxHeartbeats 4000000
variable (S : FuncId -> Option (List AV -> Heap -> Option (AV × Heap)))
theorem getD_of {p : List Int} {i : Nat} {x : Int} (h : p[i]? = some x) : p.getD i 0 = x := by rw [List.getD_eq_getElem?_getD, h]; rfl
theorem get_range {f : Nat -> Int} {n i : Nat} (h : i < n) : ((List.range n).map f)[i]? = some (f i) := by simp [h]
theorem push_get {σ0 : List StB} {b : StB} : (σ0 ++ [b])[σ0.length]? = some b := by simp
theorem push_set {σ0 : List StB} {b b' : StB} : (σ0 ++ [b]).set σ0.length b' = σ0 ++ [b'] := by simp
theorem push_cont {σ0 : List StB} {t : TypeId} {cs : List PV} : contOf (σ0 ++ [.live t cs]) σ0.length = some (t, cs) := by unfold contOf; rw [push_get]; rfl
theorem push_old {σ0 : List StB} {b : StB} {j : Nat} {x : StB} (h : σ0[j]? = some x) : (σ0 ++ [b])[j]? = some x := by
  rw [List.getElem?_append_left (List.getElem?_eq_some_iff.1 h).1]; exact h
theorem cont_live {σ : List StB} {j : Nat} {t : TypeId} {cs : List PV} (h : σ[j]? = some (.live t cs)) : contOf σ j = some (t, cs) := by unfold contOf; rw [h]; rfl
theorem own_get {cs : List PV} {p : List Int} {i : Nat} {x : Int} (h : cs.take p.length = p.map pI) (hx : p[i]? = some x) : cs[i]? = some (pI x) := by
  have hi := (List.getElem?_eq_some_iff.1 hx).1
  have h1 := congrArg (fun l => l[i]?) h
  simp only [List.getElem?_take, if_pos hi, List.getElem?_map, hx] at h1
  exact h1
theorem load_own {S : FuncId -> Option (List AV -> Heap -> Option (AV × Heap))} {σ : List StB} {j o q : Nat} {t : TypeId} {cs : List PV} {v : PV} (hc : contOf σ j = some (t, cs)) (hv : cs[q]? = some v) (ho : o = q) : ploadE (ctx.plus S) σ 22 (.optr j o) = some v := by
  subst ho
  show (match contOf σ j with | some (_, cs) => partP t22 cs o | none => match livOf σ j with | some (_, cs) => partP t22 cs o | none => none) = some v
  rw [hc]
  exact hv
theorem get_at {p : List Int} {i : Nat} (h : i < p.length) : p[i]? = some (p.getD i 0) := by rw [List.getD_eq_getElem?_getD, List.getElem?_eq_getElem h]; rfl
theorem own_len {jr l l' n : Nat} (h : l = l') : PV.own jr 0 l n 1 = .own jr 0 l' n 1 := by rw [h]
theorem rem_cf (hS : OldI S) (h241 : S 241 = none) {p0 q : List Int} {a b : Nat} (hp0 : B2s a p0) (hq : B2s b q) (hlq : 1 <= q.length) (hle0 : q.length <= p0.length) (hlp0 : p0.length <= 5) (hab : a + (p0.length + 1 - q.length) * (b + 1) <= 4800) (hb : b <= 1112) :
    Cfr (ctx.plus S) 241 [pR p0, pR q] 6000 fun ty n cp e cs => ty = 22 /\ e = 1 /\ n = (remP p0.length p0 q).length /\ cs.take n = (remP p0.length p0 q).map pI /\ n <= cp /\ cp <= cs.length := by
  refine cf_of h241 fn241 ?_
  obtain ⟨last, hlast⟩ : ∃ x, q.getD (q.length - 1) 0 = x := ⟨_, rfl⟩
  have hqt : q[q.length - 1]? = some last := by rw [← hlast]; exact get_at (by omega)
  have lbd : B2 b last := hq last (List.mem_of_getElem? hqt)
  have ldl : (digits last).length <= 44 := lbd.dig (k := 43) (by omega)
  refine ⟨⟨by omega, by omega⟩, ?_⟩
  refine ⟨⟨⟨by omega, by omega⟩, len_map_le (by omega)⟩, ?_⟩
  refine ⟨_, ld (at_map hqt) (by show _ * 1 = _; omega), ?_⟩
  refine ⟨fun m s => ∃ (p : List Int) (st f k : Nat) (v : PV) (σ0 : List StB) (T : List PV),
    s = ⟨T, σ0, k⟩ /\ T.length = 95 /\ T.getD 0 undefP = v /\ T.getD 1 undefP = pR q /\ T.getD 5 undefP = pI last /\ m = p.length /\ remP p0.length p0 q = remP f p q /\ p.length <= f /\ B2s (a + st * (b + 1)) p /\ p.length + st <= p0.length /\ k <= 1000 * st ∧
      ((v = pR p /\ q.length <= p.length) ∨ ∃ j cp cs, v = .own j 0 p.length cp 1 /\ σ0[j]? = some (.live 22 cs) /\ cs.take p.length = p.map pI /\ p.length <= cp /\ cp <= cs.length), ⟨p0.length, ?_⟩, ?_⟩
  · exact ci ⟨p0, 0, p0.length, _, _, _, _, rfl, rfl, rfl, rfl, rfl, rfl, rfl, Nat.le_refl _, by simpa using hp0, by omega, by omega, .inl ⟨rfl, hle0⟩⟩
  · rintro m s ⟨p, st, f, k, v, σ0, T, rfl, hTl, h0t, h1t, h5t, hm, hrem, hpf, hp, hst, hk, hv⟩
    obtain ⟨J, rfl⟩ : ∃ J : Nat -> PV, T = [v, pR q, J 2, J 3, J 4, pI last, J 6, J 7, J 8, J 9, J 10, J 11, J 12, J 13, J 14, J 15, J 16, J 17, J 18, J 19, J 20, J 21, J 22, J 23, J 24, J 25, J 26, J 27, J 28, J 29, J 30, J 31, J 32, J 33, J 34, J 35, J 36, J 37, J 38, J 39, J 40, J 41, J 42, J 43, J 44, J 45, J 46, J 47, J 48, J 49, J 50, J 51, J 52, J 53, J 54, J 55, J 56, J 57, J 58, J 59, J 60, J 61, J 62, J 63, J 64, J 65, J 66, J 67, J 68, J 69, J 70, J 71, J 72, J 73, J 74, J 75, J 76, J 77, J 78, J 79, J 80, J 81, J 82, J 83, J 84, J 85, J 86, J 87, J 88, J 89, J 90, J 91, J 92, J 93, J 94] := ⟨fun i => T.getD i undefP, (pex95 T hTl).trans (by rw [h0t, h1t, h5t])⟩
    clear hTl h0t h1t h5t
    have body : q.length <= p.length -> ∃ n, p.length = n + 1 /\ (p.length : Int) - 1 = ((p.length - 1 : Nat) : Int) /\ st * (b + 1) + (b + 1) <= (p0.length + 1 - q.length) * (b + 1) := fun h => by
      refine ⟨p.length - 1, by omega, by omega, ?_⟩
      rw [← Nat.succ_mul]
      exact Nat.mul_le_mul_right _ (by omega)
    rcases hv with ⟨rfl, hfirst⟩ | ⟨jj, cp, cs, rfl, hj, hcs, hc1, hc2⟩
    · refine ⟨fun hge => ?_, fun hlt => ?_⟩
      · have hge : q.length <= p.length := by omega
        obtain ⟨n, hn, hn1, hsz⟩ := body hge
        have hpt := get_at (p := p) (i := p.length - 1) (by omega)
        have hbp : a + st * (b + 1) + b + 1 <= 4800 := by omega
        have dp : ∀ i, (digits (p.getD i 0)).length <= 186 := fun i => (B2.mono (b := 4800) (hp.getD i) (by omega)).dig (k := 185) (by omega)
        have dq : ∀ i, (digits (q.getD i 0)).length <= 44 := fun i => (B2.mono (b := 1112) (hq.getD i) (by omega)).dig (k := 43) (by omega)
        have ds : ∀ x : Int, In64 (Int.sign x) := fun x => by
          have := B2.sign (e := 0) x
          unfold B2 at this
          unfold In64; omega
        have dsg : (digits (Int.sign last)).length <= 1 := (B2.sign (e := 0) last).dig (k := 0) (by omega)
        have btop : B2 (a + st * (b + 1)) (p.getD (p.length - 1) 0 * Int.sign last) := (hp.getD (p.length - 1)).mul (B2.sign (e := 0) last)
        have dtop : (digits (p.getD (p.length - 1) 0 * Int.sign last)).length <= 186 := (B2.mono (b := 4800) btop (by omega)).dig (k := 185) (by omega)
        refine ⟨by kernel_rfl, ?_⟩
        refine ⟨⟨by omega, by omega⟩, ?_⟩
        refine ⟨⟨⟨by omega, by omega⟩, len_map_le (by omega)⟩, ?_⟩
        refine ⟨_, ld (at_map hpt) (by show _ * 1 = _; omega), rfl, ?_⟩
        refine callq rfl (sign_ct S hS.o.h125 (X := last) (by omega)) (by omega) ?_
        rintro _ rfl
        refine callq rfl (of_ct S hS.o hS.h26 (ds last)) (by omega) ?_
        rintro _ rfl
        refine callq rfl (prod_ct S hS.o hS.h116 (X := p.getD (p.length - 1) 0) (Y := Int.sign last) (by have := dp (p.length - 1); omega) (by omega)) (by omega) ?_
        rintro _ rfl
        refine ⟨⟨by omega, by omega⟩, ?_⟩
        refine ⟨⟨by omega, by omega⟩, ?_⟩
        rw [hn1]
        refine ⟨by omega, ⟨by omega, by omega, by omega⟩, _, fillc_zero (f := pI) (z := zI) (n := p.length - 1), ?_⟩
        have hLl : ((List.range (p.length - 1)).map (elP p q)).length = p.length - 1 := by simp
        have hLg : ∀ i, i < p.length - 1 -> ((List.range (p.length - 1)).map (elP p q))[i]? = some (elP p q i) := fun i hi => get_range hi
        have hLs : trimL ((List.range (p.length - 1)).map (elP p q)) = stepP p q := rfl
        have hLe : ∀ i, elP p q i = p.getD i 0 * last.natAbs - if p.length - q.length <= i then p.getD (p.length - 1) 0 * Int.sign last * q.getD (i - (p.length - q.length)) 0 else 0 := fun i => by unfold elP; rw [hlast]
        generalize (List.range (p.length - 1)).map (elP p q) = L at hLl hLg hLs
        refine ⟨fun m s => ∃ (i k' : Nat) (cz : List PV) (T : List PV), s = ⟨T, σ0 ++ [.live 22 cz], k'⟩ /\ cz = fillc pI zI (p.length - 1) (L.take i) ∧
          T.length = 95 /\ T.getD 0 undefP = pR p /\ T.getD 1 undefP = pR q /\ T.getD 5 undefP = pI last /\ T.getD 6 undefP = pI (p.getD (p.length - 1) 0 * Int.sign last) /\ T.getD 7 undefP = pn ((p.length : Int) - q.length) /\ T.getD 8 undefP = .own σ0.length 0 (p.length - 1) (p.length - 1) 1 /\ T.getD 41 undefP = pn ((p.length - 1 : Nat) : Int) /\ T.getD 42 undefP = pn (i : Int) /\ m = p.length - 1 - i /\ i <= p.length - 1 /\ k' <= k + 33 + 70 * i, ⟨p.length - 1, ?_⟩, ?_⟩
        · exact ci ⟨0, _, _, _, rfl, rfl, rfl, rfl, rfl, rfl, rfl, rfl, rfl, rfl, rfl, by omega, by omega, by omega⟩
        · rintro m s ⟨i, k', cz, T, rfl, hcz, hTl, h0t, h1t, h5t, h6t, h7t, h8t, h41t, h42t, rfl, hi, hk'⟩
          obtain ⟨J2, rfl⟩ : ∃ J : Nat -> PV, T = [pR p, pR q, J 2, J 3, J 4, pI last, pI (p.getD (p.length - 1) 0 * Int.sign last), pn ((p.length : Int) - q.length), .own σ0.length 0 (p.length - 1) (p.length - 1) 1, J 9, J 10, J 11, J 12, J 13, J 14, J 15, J 16, J 17, J 18, J 19, J 20, J 21, J 22, J 23, J 24, J 25, J 26, J 27, J 28, J 29, J 30, J 31, J 32, J 33, J 34, J 35, J 36, J 37, J 38, J 39, J 40, pn ((p.length - 1 : Nat) : Int), pn (i : Int), J 43, J 44, J 45, J 46, J 47, J 48, J 49, J 50, J 51, J 52, J 53, J 54, J 55, J 56, J 57, J 58, J 59, J 60, J 61, J 62, J 63, J 64, J 65, J 66, J 67, J 68, J 69, J 70, J 71, J 72, J 73, J 74, J 75, J 76, J 77, J 78, J 79, J 80, J 81, J 82, J 83, J 84, J 85, J 86, J 87, J 88, J 89, J 90, J 91, J 92, J 93, J 94] := ⟨fun i => T.getD i undefP, (pex95 T hTl).trans (by rw [h0t, h1t, h5t, h6t, h7t, h8t, h41t, h42t])⟩
          clear hTl h0t h1t h5t h6t h7t h8t h41t h42t
          have hli : (L.take i).length = i := by simp; omega
          have hczl : cz.length = p.length - 1 := by rw [hcz]; exact fillc_len (by omega)
          refine ⟨fun hlt => ?_, fun hge2 => ?_⟩
          · have hpi := get_at (p := p) (i := i) (by omega)
            have hLi := hLg i (by omega)
            have hLn : L.take (i + 1) = L.take i ++ [elP p q i] := take_snoc hLi
            have b1 : B2 (a + st * (b + 1) + b) (p.getD i 0 * last.natAbs) := (hp.getD i).mul lbd.abs
            have d1 : (digits (p.getD i 0 * last.natAbs)).length <= 186 := (B2.mono (b := 4800) b1 (by omega)).dig (k := 185) (by omega)
            have dla : (digits (last.natAbs : Int)).length <= 44 := lbd.abs.dig (k := 43) (by omega)
            have d0 := dp i
            refine ⟨by kernel_rfl, ?_⟩
            refine ⟨⟨⟨by omega, by omega⟩, len_map_le (by omega)⟩, ?_⟩
            refine ⟨_, ld (at_map hpi) (by show _ * 1 = _; omega), rfl, ?_⟩
            refine callq rfl (size_ct S hS.h186 hS.o.h125 hS.h127 (X := last) (by omega)) (by omega) ?_
            rintro _ rfl
            refine callq rfl (prod_ct S hS.o hS.h116 (X := p.getD i 0) (Y := (last.natAbs : Int)) (by omega) (by omega)) (by omega) ?_
            rintro _ rfl
            refine ⟨⟨by omega, by omega⟩, ?_⟩
            refine ⟨_, _, push_get, ⟨rfl, by show 0 + _ * 1 + 1 <= _; omega, rfl⟩, fillc pI zI (p.length - 1) (L.take i ++ [p.getD i 0 * last.natAbs]), ?_, _, push_set, ?_⟩
            · rw [hcz]; exact fillc_next (f := pI) (by omega) (by rw [hli]; show 0 + _ * 1 = i; omega)
            refine ⟨fun hsh => ?_, fun hsh => ?_⟩
            · have hqi := get_at (p := q) (i := i - (p.length - q.length)) (by omega)
              have b2 : B2 (a + st * (b + 1) + b) (p.getD (p.length - 1) 0 * Int.sign last * q.getD (i - (p.length - q.length)) 0) := btop.mul (hq.getD _)
              have d2 : (digits (p.getD (p.length - 1) 0 * Int.sign last * q.getD (i - (p.length - q.length)) 0)).length <= 186 := (B2.mono (b := 4800) b2 (by omega)).dig (k := 185) (by omega)
              have d3 := dq (i - (p.length - q.length))
              have hval : p.getD i 0 * last.natAbs + -1 * (p.getD (p.length - 1) 0 * Int.sign last * q.getD (i - (p.length - q.length)) 0) = elP p q i := by
                rw [hLe, if_pos (by omega)]; omega
              refine ⟨by kernel_rfl, ?_⟩
              refine ⟨⟨by omega, by omega⟩, ?_⟩
              refine ⟨_, load_own push_cont (fillc_get (by omega)) (by rw [hli]; show 0 + _ * 1 = i; omega), rfl, ?_⟩
              refine ⟨⟨by omega, by omega⟩, ?_⟩
              refine ⟨⟨⟨by omega, by omega⟩, len_map_le (by omega)⟩, ?_⟩
              refine ⟨_, ld (at_map hqi) (by show _ * 1 = _; omega), rfl, ?_⟩
              refine callq rfl (prod_ct S hS.o hS.h116 (X := p.getD (p.length - 1) 0 * Int.sign last) (Y := q.getD (i - (p.length - q.length)) 0) (by omega) (by omega)) (by omega) ?_
              rintro _ rfl
              refine callq rfl ((plus_ct S hS.o hS.h114 (X := p.getD i 0 * last.natAbs) (f := -1) (Y := p.getD (p.length - 1) 0 * Int.sign last * q.getD (i - (p.length - q.length)) 0) (by omega) (by omega) (by omega)).post fun r h => h.trans (congrArg pI hval)) (by omega) ?_
              rintro _ rfl
              refine ⟨⟨by omega, by omega⟩, ?_⟩
              refine ⟨_, _, push_get, ⟨rfl, ?_, rfl⟩, _, fillc_again (f := pI) (by omega) (by rw [hli]; show 0 + _ * 1 = i; omega), _, push_set, ?_⟩
              · rw [fillc_len (by simp; omega)]; show 0 + _ * 1 + 1 <= _; omega
              refine ⟨⟨by omega, by omega⟩, ?_⟩
              exact ⟨p.length - 1 - (i + 1), by omega, ci ⟨i + 1, _, _, _, rfl, by rw [hLn], rfl, rfl, rfl, rfl, rfl, rfl, rfl, rfl, rfl, rfl, by omega, by omega⟩⟩
            · have hval : p.getD i 0 * last.natAbs = elP p q i := by
                rw [hLe, if_neg (by omega)]; omega
              refine ⟨⟨by omega, by omega⟩, ?_⟩
              exact ⟨p.length - 1 - (i + 1), by omega, ci ⟨i + 1, _, _, _, rfl, by rw [hLn, hval], rfl, rfl, rfl, rfl, rfl, rfl, rfl, rfl, rfl, rfl, by omega, by omega⟩⟩
          · have hin : i = p.length - 1 := by omega
            subst hin
            have hcz : cz = L.map pI := by rw [hcz, List.take_of_length_le (by omega)]; exact fillc_full hLl
            have hnext : ∀ l, l <= p.length - 1 -> (∀ j, l <= j -> j < L.length -> L[j]? = some 0) -> (l = 0 ∨ ∃ x, L[l - 1]? = some x /\ x ≠ 0) -> L.take l = stepP p q /\ (stepP p q).length = l := fun l hl hz hx => by
              have h1 := trim_is (xs := L) (n := l) (by omega) hz hx
              rw [hLs] at h1
              exact ⟨h1.symm, by rw [h1]; simp; omega⟩
            have hremn : remP p0.length p0 q = remP (f - 1) (stepP p q) q := by
              rw [hrem]
              obtain ⟨f, rfl⟩ : ∃ g, f = g + 1 := ⟨f - 1, by omega⟩
              simp only [remP, if_pos hge, Nat.add_sub_cancel]
            have hbn := stepP_bd hp hq
            have again : ∀ (l k2 : Nat) (T : List PV), k2 <= k + 700 -> l <= p.length - 1 -> (∀ j, l <= j -> j < L.length -> L[j]? = some 0) -> (l = 0 ∨ ∃ x, L[l - 1]? = some x /\ x ≠ 0) -> T.length = 95 /\ T.getD 0 undefP = .own σ0.length 0 l (p.length - 1) 1 /\ T.getD 1 undefP = pR q /\ T.getD 5 undefP = pI last →
                ∃ m', m' < m /\ CI (fun m s => ∃ (p : List Int) (st f k : Nat) (v : PV) (σ0 : List StB) (T : List PV),
    s = ⟨T, σ0, k⟩ /\ T.length = 95 /\ T.getD 0 undefP = v /\ T.getD 1 undefP = pR q /\ T.getD 5 undefP = pI last /\ m = p.length /\ remP p0.length p0 q = remP f p q /\ p.length <= f /\ B2s (a + st * (b + 1)) p /\ p.length + st <= p0.length /\ k <= 1000 * st ∧
      ((v = pR p /\ q.length <= p.length) ∨ ∃ j cp cs, v = .own j 0 p.length cp 1 /\ σ0[j]? = some (.live 22 cs) /\ cs.take p.length = p.map pI /\ p.length <= cp /\ cp <= cs.length)) m' ⟨T, σ0 ++ [.live 22 cz], k2⟩ := by
              rintro l k2 T hk2 hl hz hx ⟨hTl, h0t, h1t, h5t⟩
              obtain ⟨g1, g2⟩ := hnext l hl hz hx
              refine ⟨l, by omega, ci ⟨stepP p q, st + 1, f - 1, k2, _, _, T, rfl, hTl, rfl, h1t, h5t, g2.symm, hremn, by omega, ?_, by omega, by omega, .inr ⟨σ0.length, p.length - 1, cz, ?_, push_get, ?_, by omega, by rw [hcz]; simp; omega⟩⟩⟩
              · have e : a + (st + 1) * (b + 1) = a + st * (b + 1) + b + 1 := by rw [Nat.succ_mul]; omega
                rw [e]; exact hbn
              · rw [h0t, g2]
              · rw [g2, hcz, ← List.map_take, g1]
            refine ⟨fun m s => ∃ (l k2 : Nat) (T : List PV), s = ⟨T, σ0 ++ [.live 22 cz], k2⟩ /\ T.length = 95 /\ T.getD 0 undefP = .own σ0.length 0 l (p.length - 1) 1 /\ T.getD 1 undefP = pR q /\ T.getD 5 undefP = pI last /\ m = l /\ l <= p.length - 1 /\ (∀ j, l <= j -> j < L.length -> L[j]? = some 0) /\ k2 <= k + 700, ⟨p.length - 1, ?_⟩, ?_⟩
            · exact ci ⟨p.length - 1, _, _, rfl, rfl, rfl, rfl, rfl, rfl, Nat.le_refl _, fun j h1 h2 => by omega, by omega⟩
            · rintro m2 s ⟨l, k2, T, rfl, hTl, h0t, h1t, h5t, hm2, hl, hz, hk2⟩
              obtain ⟨J3, rfl⟩ : ∃ J : Nat -> PV, T = [.own σ0.length 0 l (p.length - 1) 1, pR q, J 2, J 3, J 4, pI last, J 6, J 7, J 8, J 9, J 10, J 11, J 12, J 13, J 14, J 15, J 16, J 17, J 18, J 19, J 20, J 21, J 22, J 23, J 24, J 25, J 26, J 27, J 28, J 29, J 30, J 31, J 32, J 33, J 34, J 35, J 36, J 37, J 38, J 39, J 40, J 41, J 42, J 43, J 44, J 45, J 46, J 47, J 48, J 49, J 50, J 51, J 52, J 53, J 54, J 55, J 56, J 57, J 58, J 59, J 60, J 61, J 62, J 63, J 64, J 65, J 66, J 67, J 68, J 69, J 70, J 71, J 72, J 73, J 74, J 75, J 76, J 77, J 78, J 79, J 80, J 81, J 82, J 83, J 84, J 85, J 86, J 87, J 88, J 89, J 90, J 91, J 92, J 93, J 94] := ⟨fun i => T.getD i undefP, (pex95 T hTl).trans (by rw [h0t, h1t, h5t])⟩
              clear hTl h0t h1t h5t
              refine ⟨fun hpos => ?_, fun hz0 => ?_⟩
              · obtain ⟨x, hx⟩ : ∃ x, L[l - 1]? = some x := ⟨L[l - 1]'(by omega), List.getElem?_eq_getElem _⟩
                refine ⟨⟨by omega, by omega⟩, ?_⟩
                refine ⟨⟨by omega, by omega⟩, ?_⟩
                refine ⟨_, load_own push_cont (by rw [hcz]; exact at_map hx) (by show 0 + _ * 1 = l - 1; omega), ?_⟩
                refine ⟨fun h0 => ?_, fun h1 => ?_⟩
                · have hx0 : x = 0 := digits_nil.1 (List.eq_nil_of_length_eq_zero (by omega))
                  subst hx0
                  refine ⟨⟨by omega, by omega⟩, ?_⟩
                  refine ⟨by omega, ⟨by omega, by omega⟩, 0, by split <;> rfl, ?_⟩
                  refine ⟨l - 1, by omega, ci ⟨l - 1, _, _, rfl, rfl, own_len (by show Int.toNat _ - 0 = _; omega), rfl, rfl, rfl, by omega, fun j h1 h2 => ?_, hk2⟩⟩
                  by_cases hjl : j = l - 1
                  · rw [hjl]; exact hx
                  · exact hz j (by omega) h2
                · exact again l k2 _ hk2 hl hz (.inr ⟨x, hx, fun h => h1 (by rw [h]; rfl)⟩) ⟨rfl, rfl, rfl, rfl⟩
              · exact again l k2 _ hk2 hl hz (.inl (by omega)) ⟨rfl, rfl, rfl, rfl⟩
      · have hlt : p.length < q.length := by omega
        have hfin : remP f p q = p := by
          cases f with
          | zero => rfl
          | succ f => simp only [remP, if_neg (show ¬ q.length <= p.length by omega)]
        omega
    · refine ⟨fun hge => ?_, fun hlt => ?_⟩
      · have hge : q.length <= p.length := by omega
        obtain ⟨n, hn, hn1, hsz⟩ := body hge
        have hpt := get_at (p := p) (i := p.length - 1) (by omega)
        have hbp : a + st * (b + 1) + b + 1 <= 4800 := by omega
        have dp : ∀ i, (digits (p.getD i 0)).length <= 186 := fun i => (B2.mono (b := 4800) (hp.getD i) (by omega)).dig (k := 185) (by omega)
        have dq : ∀ i, (digits (q.getD i 0)).length <= 44 := fun i => (B2.mono (b := 1112) (hq.getD i) (by omega)).dig (k := 43) (by omega)
        have ds : ∀ x : Int, In64 (Int.sign x) := fun x => by
          have := B2.sign (e := 0) x
          unfold B2 at this
          unfold In64; omega
        have dsg : (digits (Int.sign last)).length <= 1 := (B2.sign (e := 0) last).dig (k := 0) (by omega)
        have btop : B2 (a + st * (b + 1)) (p.getD (p.length - 1) 0 * Int.sign last) := (hp.getD (p.length - 1)).mul (B2.sign (e := 0) last)
        have dtop : (digits (p.getD (p.length - 1) 0 * Int.sign last)).length <= 186 := (B2.mono (b := 4800) btop (by omega)).dig (k := 185) (by omega)
        refine ⟨by kernel_rfl, ?_⟩
        refine ⟨⟨by omega, by omega⟩, ?_⟩
        refine ⟨⟨by omega, by omega⟩, ?_⟩
        refine ⟨_, load_own (cont_live hj) (own_get hcs hpt) (by show 0 + _ * 1 = _; omega), rfl, ?_⟩
        refine callq rfl (sign_ct S hS.o.h125 (X := last) (by omega)) (by omega) ?_
        rintro _ rfl
        refine callq rfl (of_ct S hS.o hS.h26 (ds last)) (by omega) ?_
        rintro _ rfl
        refine callq rfl (prod_ct S hS.o hS.h116 (X := p.getD (p.length - 1) 0) (Y := Int.sign last) (by have := dp (p.length - 1); omega) (by omega)) (by omega) ?_
        rintro _ rfl
        refine ⟨⟨by omega, by omega⟩, ?_⟩
        refine ⟨⟨by omega, by omega⟩, ?_⟩
        rw [hn1]
        refine ⟨by omega, ⟨by omega, by omega, by omega⟩, _, fillc_zero (f := pI) (z := zI) (n := p.length - 1), ?_⟩
        have hLl : ((List.range (p.length - 1)).map (elP p q)).length = p.length - 1 := by simp
        have hLg : ∀ i, i < p.length - 1 -> ((List.range (p.length - 1)).map (elP p q))[i]? = some (elP p q i) := fun i hi => get_range hi
        have hLs : trimL ((List.range (p.length - 1)).map (elP p q)) = stepP p q := rfl
        have hLe : ∀ i, elP p q i = p.getD i 0 * last.natAbs - if p.length - q.length <= i then p.getD (p.length - 1) 0 * Int.sign last * q.getD (i - (p.length - q.length)) 0 else 0 := fun i => by unfold elP; rw [hlast]
        generalize (List.range (p.length - 1)).map (elP p q) = L at hLl hLg hLs
        refine ⟨fun m s => ∃ (i k' : Nat) (cz : List PV) (T : List PV), s = ⟨T, σ0 ++ [.live 22 cz], k'⟩ /\ cz = fillc pI zI (p.length - 1) (L.take i) ∧
          T.length = 95 /\ T.getD 0 undefP = .own jj 0 p.length cp 1 /\ T.getD 1 undefP = pR q /\ T.getD 5 undefP = pI last /\ T.getD 6 undefP = pI (p.getD (p.length - 1) 0 * Int.sign last) /\ T.getD 7 undefP = pn ((p.length : Int) - q.length) /\ T.getD 8 undefP = .own σ0.length 0 (p.length - 1) (p.length - 1) 1 /\ T.getD 41 undefP = pn ((p.length - 1 : Nat) : Int) /\ T.getD 42 undefP = pn (i : Int) /\ m = p.length - 1 - i /\ i <= p.length - 1 /\ k' <= k + 33 + 70 * i, ⟨p.length - 1, ?_⟩, ?_⟩
        · exact ci ⟨0, _, _, _, rfl, rfl, rfl, rfl, rfl, rfl, rfl, rfl, rfl, rfl, rfl, by omega, by omega, by omega⟩
        · rintro m s ⟨i, k', cz, T, rfl, hcz, hTl, h0t, h1t, h5t, h6t, h7t, h8t, h41t, h42t, rfl, hi, hk'⟩
          obtain ⟨J2, rfl⟩ : ∃ J : Nat -> PV, T = [.own jj 0 p.length cp 1, pR q, J 2, J 3, J 4, pI last, pI (p.getD (p.length - 1) 0 * Int.sign last), pn ((p.length : Int) - q.length), .own σ0.length 0 (p.length - 1) (p.length - 1) 1, J 9, J 10, J 11, J 12, J 13, J 14, J 15, J 16, J 17, J 18, J 19, J 20, J 21, J 22, J 23, J 24, J 25, J 26, J 27, J 28, J 29, J 30, J 31, J 32, J 33, J 34, J 35, J 36, J 37, J 38, J 39, J 40, pn ((p.length - 1 : Nat) : Int), pn (i : Int), J 43, J 44, J 45, J 46, J 47, J 48, J 49, J 50, J 51, J 52, J 53, J 54, J 55, J 56, J 57, J 58, J 59, J 60, J 61, J 62, J 63, J 64, J 65, J 66, J 67, J 68, J 69, J 70, J 71, J 72, J 73, J 74, J 75, J 76, J 77, J 78, J 79, J 80, J 81, J 82, J 83, J 84, J 85, J 86, J 87, J 88, J 89, J 90, J 91, J 92, J 93, J 94] := ⟨fun i => T.getD i undefP, (pex95 T hTl).trans (by rw [h0t, h1t, h5t, h6t, h7t, h8t, h41t, h42t])⟩
          clear hTl h0t h1t h5t h6t h7t h8t h41t h42t
          have hli : (L.take i).length = i := by simp; omega
          have hczl : cz.length = p.length - 1 := by rw [hcz]; exact fillc_len (by omega)
          refine ⟨fun hlt => ?_, fun hge2 => ?_⟩
          · have hpi := get_at (p := p) (i := i) (by omega)
            have hLi := hLg i (by omega)
            have hLn : L.take (i + 1) = L.take i ++ [elP p q i] := take_snoc hLi
            have b1 : B2 (a + st * (b + 1) + b) (p.getD i 0 * last.natAbs) := (hp.getD i).mul lbd.abs
            have d1 : (digits (p.getD i 0 * last.natAbs)).length <= 186 := (B2.mono (b := 4800) b1 (by omega)).dig (k := 185) (by omega)
            have dla : (digits (last.natAbs : Int)).length <= 44 := lbd.abs.dig (k := 43) (by omega)
            have d0 := dp i
            refine ⟨by kernel_rfl, ?_⟩
            refine ⟨⟨by omega, by omega⟩, ?_⟩
            refine ⟨_, load_own (cont_live (push_old hj)) (own_get hcs hpi) (by show 0 + _ * 1 = _; omega), rfl, ?_⟩
            refine callq rfl (size_ct S hS.h186 hS.o.h125 hS.h127 (X := last) (by omega)) (by omega) ?_
            rintro _ rfl
            refine callq rfl (prod_ct S hS.o hS.h116 (X := p.getD i 0) (Y := (last.natAbs : Int)) (by omega) (by omega)) (by omega) ?_
            rintro _ rfl
            refine ⟨⟨by omega, by omega⟩, ?_⟩
            refine ⟨_, _, push_get, ⟨rfl, by show 0 + _ * 1 + 1 <= _; omega, rfl⟩, fillc pI zI (p.length - 1) (L.take i ++ [p.getD i 0 * last.natAbs]), ?_, _, push_set, ?_⟩
            · rw [hcz]; exact fillc_next (f := pI) (by omega) (by rw [hli]; show 0 + _ * 1 = i; omega)
            refine ⟨fun hsh => ?_, fun hsh => ?_⟩
            · have hqi := get_at (p := q) (i := i - (p.length - q.length)) (by omega)
              have b2 : B2 (a + st * (b + 1) + b) (p.getD (p.length - 1) 0 * Int.sign last * q.getD (i - (p.length - q.length)) 0) := btop.mul (hq.getD _)
              have d2 : (digits (p.getD (p.length - 1) 0 * Int.sign last * q.getD (i - (p.length - q.length)) 0)).length <= 186 := (B2.mono (b := 4800) b2 (by omega)).dig (k := 185) (by omega)
              have d3 := dq (i - (p.length - q.length))
              have hval : p.getD i 0 * last.natAbs + -1 * (p.getD (p.length - 1) 0 * Int.sign last * q.getD (i - (p.length - q.length)) 0) = elP p q i := by
                rw [hLe, if_pos (by omega)]; omega
              refine ⟨by kernel_rfl, ?_⟩
              refine ⟨⟨by omega, by omega⟩, ?_⟩
              refine ⟨_, load_own push_cont (fillc_get (by omega)) (by rw [hli]; show 0 + _ * 1 = i; omega), rfl, ?_⟩
              refine ⟨⟨by omega, by omega⟩, ?_⟩
              refine ⟨⟨⟨by omega, by omega⟩, len_map_le (by omega)⟩, ?_⟩
              refine ⟨_, ld (at_map hqi) (by show _ * 1 = _; omega), rfl, ?_⟩
              refine callq rfl (prod_ct S hS.o hS.h116 (X := p.getD (p.length - 1) 0 * Int.sign last) (Y := q.getD (i - (p.length - q.length)) 0) (by omega) (by omega)) (by omega) ?_
              rintro _ rfl
              refine callq rfl ((plus_ct S hS.o hS.h114 (X := p.getD i 0 * last.natAbs) (f := -1) (Y := p.getD (p.length - 1) 0 * Int.sign last * q.getD (i - (p.length - q.length)) 0) (by omega) (by omega) (by omega)).post fun r h => h.trans (congrArg pI hval)) (by omega) ?_
              rintro _ rfl
              refine ⟨⟨by omega, by omega⟩, ?_⟩
              refine ⟨_, _, push_get, ⟨rfl, ?_, rfl⟩, _, fillc_again (f := pI) (by omega) (by rw [hli]; show 0 + _ * 1 = i; omega), _, push_set, ?_⟩
              · rw [fillc_len (by simp; omega)]; show 0 + _ * 1 + 1 <= _; omega
              refine ⟨⟨by omega, by omega⟩, ?_⟩
              exact ⟨p.length - 1 - (i + 1), by omega, ci ⟨i + 1, _, _, _, rfl, by rw [hLn], rfl, rfl, rfl, rfl, rfl, rfl, rfl, rfl, rfl, rfl, by omega, by omega⟩⟩
            · have hval : p.getD i 0 * last.natAbs = elP p q i := by
                rw [hLe, if_neg (by omega)]; omega
              refine ⟨⟨by omega, by omega⟩, ?_⟩
              exact ⟨p.length - 1 - (i + 1), by omega, ci ⟨i + 1, _, _, _, rfl, by rw [hLn, hval], rfl, rfl, rfl, rfl, rfl, rfl, rfl, rfl, rfl, rfl, by omega, by omega⟩⟩
          · have hin : i = p.length - 1 := by omega
            subst hin
            have hcz : cz = L.map pI := by rw [hcz, List.take_of_length_le (by omega)]; exact fillc_full hLl
            have hnext : ∀ l, l <= p.length - 1 -> (∀ j, l <= j -> j < L.length -> L[j]? = some 0) -> (l = 0 ∨ ∃ x, L[l - 1]? = some x /\ x ≠ 0) -> L.take l = stepP p q /\ (stepP p q).length = l := fun l hl hz hx => by
              have h1 := trim_is (xs := L) (n := l) (by omega) hz hx
              rw [hLs] at h1
              exact ⟨h1.symm, by rw [h1]; simp; omega⟩
            have hremn : remP p0.length p0 q = remP (f - 1) (stepP p q) q := by
              rw [hrem]
              obtain ⟨f, rfl⟩ : ∃ g, f = g + 1 := ⟨f - 1, by omega⟩
              simp only [remP, if_pos hge, Nat.add_sub_cancel]
            have hbn := stepP_bd hp hq
            have again : ∀ (l k2 : Nat) (T : List PV), k2 <= k + 700 -> l <= p.length - 1 -> (∀ j, l <= j -> j < L.length -> L[j]? = some 0) -> (l = 0 ∨ ∃ x, L[l - 1]? = some x /\ x ≠ 0) -> T.length = 95 /\ T.getD 0 undefP = .own σ0.length 0 l (p.length - 1) 1 /\ T.getD 1 undefP = pR q /\ T.getD 5 undefP = pI last →
                ∃ m', m' < m /\ CI (fun m s => ∃ (p : List Int) (st f k : Nat) (v : PV) (σ0 : List StB) (T : List PV),
    s = ⟨T, σ0, k⟩ /\ T.length = 95 /\ T.getD 0 undefP = v /\ T.getD 1 undefP = pR q /\ T.getD 5 undefP = pI last /\ m = p.length /\ remP p0.length p0 q = remP f p q /\ p.length <= f /\ B2s (a + st * (b + 1)) p /\ p.length + st <= p0.length /\ k <= 1000 * st ∧
      ((v = pR p /\ q.length <= p.length) ∨ ∃ j cp cs, v = .own j 0 p.length cp 1 /\ σ0[j]? = some (.live 22 cs) /\ cs.take p.length = p.map pI /\ p.length <= cp /\ cp <= cs.length)) m' ⟨T, σ0 ++ [.live 22 cz], k2⟩ := by
              rintro l k2 T hk2 hl hz hx ⟨hTl, h0t, h1t, h5t⟩
              obtain ⟨g1, g2⟩ := hnext l hl hz hx
              refine ⟨l, by omega, ci ⟨stepP p q, st + 1, f - 1, k2, _, _, T, rfl, hTl, rfl, h1t, h5t, g2.symm, hremn, by omega, ?_, by omega, by omega, .inr ⟨σ0.length, p.length - 1, cz, ?_, push_get, ?_, by omega, by rw [hcz]; simp; omega⟩⟩⟩
              · have e : a + (st + 1) * (b + 1) = a + st * (b + 1) + b + 1 := by rw [Nat.succ_mul]; omega
                rw [e]; exact hbn
              · rw [h0t, g2]
              · rw [g2, hcz, ← List.map_take, g1]
            refine ⟨fun m s => ∃ (l k2 : Nat) (T : List PV), s = ⟨T, σ0 ++ [.live 22 cz], k2⟩ /\ T.length = 95 /\ T.getD 0 undefP = .own σ0.length 0 l (p.length - 1) 1 /\ T.getD 1 undefP = pR q /\ T.getD 5 undefP = pI last /\ m = l /\ l <= p.length - 1 /\ (∀ j, l <= j -> j < L.length -> L[j]? = some 0) /\ k2 <= k + 700, ⟨p.length - 1, ?_⟩, ?_⟩
            · exact ci ⟨p.length - 1, _, _, rfl, rfl, rfl, rfl, rfl, rfl, Nat.le_refl _, fun j h1 h2 => by omega, by omega⟩
            · rintro m2 s ⟨l, k2, T, rfl, hTl, h0t, h1t, h5t, hm2, hl, hz, hk2⟩
              obtain ⟨J3, rfl⟩ : ∃ J : Nat -> PV, T = [.own σ0.length 0 l (p.length - 1) 1, pR q, J 2, J 3, J 4, pI last, J 6, J 7, J 8, J 9, J 10, J 11, J 12, J 13, J 14, J 15, J 16, J 17, J 18, J 19, J 20, J 21, J 22, J 23, J 24, J 25, J 26, J 27, J 28, J 29, J 30, J 31, J 32, J 33, J 34, J 35, J 36, J 37, J 38, J 39, J 40, J 41, J 42, J 43, J 44, J 45, J 46, J 47, J 48, J 49, J 50, J 51, J 52, J 53, J 54, J 55, J 56, J 57, J 58, J 59, J 60, J 61, J 62, J 63, J 64, J 65, J 66, J 67, J 68, J 69, J 70, J 71, J 72, J 73, J 74, J 75, J 76, J 77, J 78, J 79, J 80, J 81, J 82, J 83, J 84, J 85, J 86, J 87, J 88, J 89, J 90, J 91, J 92, J 93, J 94] := ⟨fun i => T.getD i undefP, (pex95 T hTl).trans (by rw [h0t, h1t, h5t])⟩
              clear hTl h0t h1t h5t
              refine ⟨fun hpos => ?_, fun hz0 => ?_⟩
              · obtain ⟨x, hx⟩ : ∃ x, L[l - 1]? = some x := ⟨L[l - 1]'(by omega), List.getElem?_eq_getElem _⟩
                refine ⟨⟨by omega, by omega⟩, ?_⟩
                refine ⟨⟨by omega, by omega⟩, ?_⟩
                refine ⟨_, load_own push_cont (by rw [hcz]; exact at_map hx) (by show 0 + _ * 1 = l - 1; omega), ?_⟩
                refine ⟨fun h0 => ?_, fun h1 => ?_⟩
                · have hx0 : x = 0 := digits_nil.1 (List.eq_nil_of_length_eq_zero (by omega))
                  subst hx0
                  refine ⟨⟨by omega, by omega⟩, ?_⟩
                  refine ⟨by omega, ⟨by omega, by omega⟩, 0, by split <;> rfl, ?_⟩
                  refine ⟨l - 1, by omega, ci ⟨l - 1, _, _, rfl, rfl, own_len (by show Int.toNat _ - 0 = _; omega), rfl, rfl, rfl, by omega, fun j h1 h2 => ?_, hk2⟩⟩
                  by_cases hjl : j = l - 1
                  · rw [hjl]; exact hx
                  · exact hz j (by omega) h2
                · exact again l k2 _ hk2 hl hz (.inr ⟨x, hx, fun h => h1 (by rw [h]; rfl)⟩) ⟨rfl, rfl, rfl, rfl⟩
              · exact again l k2 _ hk2 hl hz (.inl (by omega)) ⟨rfl, rfl, rfl, rfl⟩
      · have hlt : p.length < q.length := by omega
        have hfin : remP f p q = p := by
          cases f with
          | zero => rfl
          | succ f => simp only [remP, if_neg (show ¬ q.length <= p.length by omega)]
        exact ⟨jj, p.length, cp, 1, 22, cs, rfl, hj, rfl, rfl, by rw [hrem, hfin], by rw [hrem, hfin]; exact hcs, hc1, hc2⟩
end Go.PI
