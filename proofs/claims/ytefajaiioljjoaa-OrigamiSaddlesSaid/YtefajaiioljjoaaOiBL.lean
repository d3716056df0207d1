/- Own work of the verifier: OgSj. -/
import Derived.Test.YtefajaiioljjoaaOiBI
import Derived.Test.YtefajaiioljjoaaOiBK
set_option linter.all false
set_option exponentiation.threshold 3000
set_option linter.deprecated false
/- SADDLES of the reference. -/
open Go.Proofs
namespace Go.PI
open IM
set_option maxRecDepth 10000
set_option maxHeartbeats 4000000
variable (S : FuncId → Option (List AV → Heap → Option (AV × Heap)))
theorem Gw.ne0 {v : PV} {σ : List StB} {n : Nat} {cs : List Int} {ds : List PV} (h : Gw 69 v σ n cs) (h0 : σ[0]? = some (.live 24 ds)) : blkOf v ≠ some 0 := by
  obtain ⟨-, ⟨rfl, -⟩ | ⟨j, -, rfl, hj⟩⟩ := h
  · simp [blkOf]
  · intro e
    have e : j = 0 := Option.some.inj e
    subst e
    rw [h0] at hj
    cases hj
theorem pIs_ZL {l : List Nat} : PV.lst l.length (l.map pnn) = pIs (ZL l) := by
  show _ = PV.lst (ZL l).length ((ZL l).map pn)
  rw [ZL_len]
  unfold ZL
  rw [List.map_map]
  rfl
theorem fn53 : ctx.fn 53 = some c53 := by kernel_rfl
theorem rsaddles_ct (hS : OldO S) : SadP S 53 10000000 := by
  intro r u n f f' g g' h
  have hn := h.le
  have h0 := h.pos
  have pr := h.pr
  have pu := h.pu
  have pc := h.cm
  have hrl : r.length = n := h.l1.1
  have hul : u.length = n := h.l1.2
  have hru : r = PL n f := h.hr
  have huu : u = PL n g := h.hu
  obtain ⟨c, hc⟩ : ∃ c, c = cmf f f' g g' := ⟨_, rfl⟩
  have hor : ∀ x, x < n → Ct (ctx.plus S) 98 [pO r u, pn x] 800 fun v => ∃ k : Int, v = pn k ∧ 0 ≤ k ∧ (k = 0 ↔ c x = x) := fun x hx => by rw [hc]; exact order_ct S hS h hx
  have hve : ∀ x, x < n → Ct (ctx.plus S) 99 [pO r u, pn x] 10010 fun v => v = pn (vx (cycs n c) x : Nat) := fun x hx => by rw [hc]; exact vertexOf_ct S hS h hx
  have hbel : ∀ i m, i < n → 0 < m → (∀ k, 0 < k → k < m → c (it f k i) = it f k i) → g (it f m (g' i)) = c (it f m i) := fun i m hi hm hf => by rw [hc] at hf ⊢; exact below_eq pr pu hi hm hf
  rw [← hc] at pc ⊢
  have hrg : ∀ i, i < n → r[i]? = some (f i : Int) := fun i hi => by rw [hru, PL_get hi]
  have hug : ∀ i, i < n → u[i]? = some (g i : Int) := fun i hi => by rw [huu, PL_get hi]
  have Hor : Hid (∀ x, x < n → Ct (ctx.plus S) 98 [pO r u, pn x] 800 fun v => ∃ k : Int, v = pn k ∧ 0 ≤ k ∧ (k = 0 ↔ c x = x)) := ⟨hor⟩
  have Hve : Hid (∀ x, x < n → Ct (ctx.plus S) 99 [pO r u, pn x] 10010 fun v => v = pn (vx (cycs n c) x : Nat)) := ⟨hve⟩
  have Hbel : Hid (∀ i m, i < n → 0 < m → (∀ k, 0 < k → k < m → c (it f k i) = it f k i) → g (it f m (g' i)) = c (it f m i)) := ⟨hbel⟩
  have huP : Ct (ctx.plus S) 89 [pIs u] (2 * n) fun r => r = pIs (PL n g') := by rw [huu]; exact rinverse_ct S hS pu (by omega)
  clear hor hve hbel hc hru huu
  refine ct_of (hS 53 (by decide)) fn53 ?_
  refine ⟨by omega, ?_⟩
  refine ⟨fun m s => ∃ (i : Nat) (v : PV) (σ : List StB) (b : Nat) (T : List PV), s = ⟨T, σ, b⟩ ∧ Gt T 100 [(1, .optr 0 0), (3, v), (4, pn i)] ∧ m = n - i ∧ i ≤ n ∧ b ≤ 1 + 803 * i ∧ Hid (σ[0]? = some (.live 24 [pIs r, pIs u]) ∧ Gr pnn 3 v σ (sing c i) ∧ blkOf v ≠ some 0), ⟨_, ci ⟨0, .nils, _, _, _, rfl, ⟨rfl, rfl, rfl, rfl, trivial⟩, rfl, Nat.zero_le _, by omega, ⟨rfl, Gr.nil, by simp [blkOf]⟩⟩⟩, ?_⟩
  rintro _ s ⟨i, v, σ, b, T, rfl, hT, rfl, hi, hb, ⟨hs0, hg, hv0⟩⟩
  obtain ⟨J, rfl⟩ := gt_open hT
  clear hT
  refine ⟨_, load_c (contOf_live hs0) rfl rfl, ?_⟩
  refine callq rfl (size_ct S hS) (by omega) ?_
  rintro _ rfl
  refine ⟨fun hlt => ?_, fun hge => ?_⟩
  · have hlt : (i : Int) < (r.length : Nat) := hlt
    have hst := sing_step (c := c) (n := i)
    refine ⟨_, load_c (contOf_live hs0) rfl rfl, ?_⟩
    refine callq rfl (Hor.h i (by omega)) (by omega) ?_
    rintro _ ⟨k, rfl, hk0, hk⟩
    refine ⟨fun hgt => ?_, fun hle => ?_⟩
    · have hgt : 0 < k := hgt
      have hne : c i ≠ i := fun e => by have := hk.2 e; omega
      rw [if_pos hne] at hst
      refine ⟨by omega, partc rfl ⟨_, rfl, ?_⟩⟩
      refine appG (f := pnn) (e := 3) (y := i) hg.push push_cont rfl rfl rfl rfl (by kernel_rfl) rfl rfl (by have := sing_len (c := c) (n := i); omega) (by omega) fun v' σ' hg' hk' hb' => ?_
      have hv0' : blkOf v' ≠ some 0 := by rw [hb']; simp
      refine ⟨⟨by omega, by omega⟩, ?_⟩
      exact ⟨_, by omega, ci ⟨i + 1, _, _, _, _, rfl, ⟨rfl, rfl, rfl, rfl, trivial⟩, rfl, by omega, by omega, ⟨hk' 0 _ hv0 (push_old hs0), by rw [hst]; exact hg', hv0'⟩⟩⟩
    · have hle : k ≤ 0 := hle
      have heq : c i = i := hk.1 (by omega)
      rw [if_neg (fun h => h heq)] at hst
      refine ⟨⟨by omega, by omega⟩, ?_⟩
      exact ⟨_, by omega, ci ⟨i + 1, _, _, _, _, rfl, ⟨rfl, rfl, rfl, rfl, trivial⟩, rfl, by omega, by omega, ⟨hs0, by rw [hst]; exact hg, hv0⟩⟩⟩
  · have hge : ((r.length : Nat) : Int) ≤ i := hge
    have hin : i = n := by omega
    rw [hin] at hg
    obtain ⟨P, hP⟩ : ∃ P, P = sing c n := ⟨_, rfl⟩
    have hPl : P.length ≤ n := by rw [hP]; exact sing_len
    have hPm : ∀ x, x ∈ P → x < n ∧ c x ≠ x := fun x hx => mem_sing.1 (by rw [← hP]; exact hx)
    have HP : Hid (P = sing c n) := ⟨hP⟩
    obtain ⟨σ', hF, hcont, hlen, hkeep⟩ := hg.cn.fz
    rw [pIs_ZL, ← hP] at hF
    have hs0' := hkeep 0 _ hv0 hs0
    have hb1 : b ≤ 50000 := by omega
    refine ⟨_, load_k rfl rfl (contOf_live hs0) (show [pIs r, pIs u][1]? = some (pIs u) from rfl) (by rfl), ?_⟩
    refine callq rfl huP (by omega) ?_
    rintro _ rfl
    clear hP hg hkeep hcont hlen hs0 hv0 hb
    refine ⟨fun m s => ∃ (k : Nat) (v : PV) (σ : List StB) (b : Nat) (T : List PV), s = ⟨T, σ, b⟩ ∧ Gt T 100 [(1, .optr 0 0), (3, pIs (ZL P)), (5, pIs (PL n g')), (6, v), (7, pn k)] ∧ m = P.length - k ∧ k ≤ P.length ∧ b ≤ 60000 + 70000 * k ∧ Hid (σ[0]? = some (.live 24 [pIs r, pIs u]) ∧ Gw 69 v σ k (sds n f c (P.take k)) ∧ blkOf v ≠ some 0), ⟨_, ⟨_, frzS_tmp (i := 3) rfl (hF _ rfl), 0, .nils, σ', _, _, rfl, ⟨rfl, rfl, rfl, rfl, rfl, rfl, trivial⟩, rfl, Nat.zero_le _, by omega, ⟨hs0', Gw.nil, by simp [blkOf]⟩⟩⟩, ?_⟩
    clear hF hs0' hb1
    rintro _ s ⟨k, v, σ, b, T, rfl, hT, rfl, hk, hb, ⟨hs0, hw, hv0⟩⟩
    obtain ⟨J, rfl⟩ := gt_open hT
    clear hT
    have hzl : (ZL P).length = P.length := ZL_len
    refine ⟨fun hlt => ?_, fun hge => ?_⟩
    · have hlt : (k : Int) < ((ZL P).length : Nat) := hlt
      obtain ⟨x, hx⟩ : ∃ x, P[k]? = some x := ⟨_, List.getElem?_eq_getElem (by omega)⟩
      obtain ⟨hxn, hxs⟩ := hPm x (List.mem_of_getElem? hx)
      have hxz := ZL_get hx
      have htk : P.take (k + 1) = P.take k ++ [x] := by rw [List.take_add_one, hx]; rfl
      obtain ⟨hL, hLn⟩ := slen_spec pr hxn hxs
      have hgx : g' x < n := pu.glt x hxn
      refine ⟨by kernel_rfl, ?_⟩
      refine ⟨⟨⟨by omega, by omega⟩, len_map_le (by omega)⟩, ?_⟩
      refine ⟨_, ld (at_map hxz) (by show _ * 1 = k; omega), rfl, ?_⟩
      refine ⟨_, load_c (contOf_live hs0) rfl rfl, rfl, ?_⟩
      refine ⟨⟨⟨by omega, by omega⟩, len_map_le (by omega)⟩, ?_⟩
      refine ⟨_, ld (at_map hxz) (by show _ * 1 = k; omega), rfl, ?_⟩
      refine callq rfl (Hve.h x hxn) (by omega) ?_
      rintro _ rfl
      refine partc rfl ⟨_, rfl, ?_⟩
      refine ⟨by omega, ?_⟩
      refine ⟨_, _, push_get, ⟨rfl, Nat.le_of_ble_eq_true rfl, rfl⟩, _, rfl, _, push_set, ?_⟩
      refine ⟨by kernel_rfl, ?_⟩
      refine ⟨⟨⟨by omega, by omega⟩, len_map_le (by omega)⟩, ?_⟩
      refine ⟨_, ld (at_map hxz) (by show _ * 1 = k; omega), rfl, ?_⟩
      refine ⟨⟨⟨by omega, by omega⟩, len_map_le (by omega)⟩, ?_⟩
      refine ⟨_, ld (at_map hxz) (by show _ * 1 = k; omega), rfl, ?_⟩
      refine ⟨⟨⟨by omega, by rw [PL_len]; omega⟩, len_map_le (by rw [PL_len]; omega)⟩, ?_⟩
      refine ⟨_, ld (at_map (PL_get hxn)) (by show _ * 1 = x; omega), rfl, ?_⟩
      have hb1 : b + 10011 ≤ 71000 + 70000 * k := by omega
      refine ⟨fun q s => ∃ (m b' : Nat) (T : List PV), s = ⟨T, σ ++ [.live 69 [pn x, pn m, pn (vx (cycs n c) x : Nat), pn 0, pn 0, pn 0]], b'⟩ ∧ Gt T 100 [(1, .optr 0 0), (3, pIs (ZL P)), (5, pIs (PL n g')), (6, v), (7, pn k), (8, .optr σ.length 0), (9, pn (it f m x : Nat)), (10, pn (it f m (g' x) : Nat))] ∧ q = sadl f c x - m ∧ m ≤ sadl f c x ∧ b' ≤ 71000 + 70000 * k + 800 * m, ⟨_, ci ⟨0, _, _, rfl, ⟨rfl, rfl, rfl, rfl, rfl, rfl, rfl, rfl, rfl, trivial⟩, rfl, Nat.zero_le _, by omega⟩⟩, ?_⟩
      rintro _ s ⟨m, b', T, rfl, hT, rfl, hm, hb'⟩
      obtain ⟨J2, rfl⟩ := gt_open hT
      clear hT
      have hs1 := push_old (b := .live 69 [pn x, pn m, pn (vx (cycs n c) x : Nat), pn 0, pn 0, pn 0]) hs0
      obtain ⟨j, hj⟩ : ∃ j, j = it f m x := ⟨_, rfl⟩
      obtain ⟨w, hwu⟩ : ∃ w, w = it f m (g' x) := ⟨_, rfl⟩
      have hjn : j < n := by rw [hj]; exact it_lt pr hxn m
      have hwn : w < n := by rw [hwu]; exact it_lt pr hgx m
      have e1 : f j = it f (m + 1) x := by rw [hj]; rfl
      have e2 : f w = it f (m + 1) (g' x) := by rw [hwu]; rfl
      rw [← hj, ← hwu]
      refine ⟨_, load_k rfl rfl (contOf_live push_get) (show [pn x, pn m, pn (vx (cycs n c) x : Nat), pn 0, pn 0, pn 0][1]? = some (pn m) from rfl) (by rfl), ?_⟩
      have body : ∀ {Z : Prop}, Z → Z := fun h => h
      refine ⟨fun hz => ?_, fun hnz => ?_⟩
      · have hz : m = 0 := by have h : (m : Int) = 0 := hz; omega
        have hm1 : m + 1 ≤ sadl f c x := by have := hL.1; omega
        refine ⟨by kernel_rfl, ?_⟩
        refine ⟨_, load_k rfl rfl (contOf_live hs1) (show [pIs r, pIs u][0]? = some (pIs r) from rfl) (by rfl), rfl, ?_⟩
        refine ⟨⟨⟨by omega, by omega⟩, len_map_le (by omega)⟩, ?_⟩
        refine ⟨_, ld (at_map (hrg j hjn)) (by show _ * 1 = j; omega), rfl, ?_⟩
        refine ⟨_, load_k rfl rfl (contOf_live hs1) (show [pIs r, pIs u][0]? = some (pIs r) from rfl) (by rfl), rfl, ?_⟩
        refine ⟨⟨⟨by omega, by omega⟩, len_map_le (by omega)⟩, ?_⟩
        refine ⟨_, ld (at_map (hrg w hwn)) (by show _ * 1 = w; omega), rfl, ?_⟩
        refine ⟨_, load_k rfl rfl (contOf_live push_get) (show [pn x, pn m, pn (vx (cycs n c) x : Nat), pn 0, pn 0, pn 0][1]? = some (pn m) from rfl) (by rfl), ?_⟩
        refine ⟨⟨by omega, by omega⟩, ?_⟩
        refine ⟨_, _, push_get, ⟨rfl, Nat.le_of_ble_eq_true rfl, rfl⟩, _, rfl, _, push_set, ?_⟩
        rw [e1, e2]
        exact ⟨_, by omega, ci ⟨m + 1, _, _, rfl, ⟨rfl, rfl, rfl, rfl, rfl, rfl, rfl, rfl, rfl, trivial⟩, rfl, by omega, by omega⟩⟩
      · have hnz : m ≠ 0 := fun e => hnz (by show (m : Int) = 0; omega)
        refine ⟨_, load_c (contOf_live hs1) rfl rfl, ?_⟩
        refine callq rfl (Hor.h j hjn) (by omega) ?_
        rintro _ ⟨k', rfl, hk0, hk'⟩
        refine ⟨fun hz => ?_, fun hz => ?_⟩
        · have hfx : c j = j := hk'.1 hz
          have hms : m ≠ sadl f c x := fun e => hL.2.1 (by rw [← e, ← hj]; exact hfx)
          refine ⟨by kernel_rfl, ?_⟩
          refine ⟨_, load_k rfl rfl (contOf_live hs1) (show [pIs r, pIs u][0]? = some (pIs r) from rfl) (by rfl), rfl, ?_⟩
          refine ⟨⟨⟨by omega, by omega⟩, len_map_le (by omega)⟩, ?_⟩
          refine ⟨_, ld (at_map (hrg j hjn)) (by show _ * 1 = j; omega), rfl, ?_⟩
          refine ⟨_, load_k rfl rfl (contOf_live hs1) (show [pIs r, pIs u][0]? = some (pIs r) from rfl) (by rfl), rfl, ?_⟩
          refine ⟨⟨⟨by omega, by omega⟩, len_map_le (by omega)⟩, ?_⟩
          refine ⟨_, ld (at_map (hrg w hwn)) (by show _ * 1 = w; omega), rfl, ?_⟩
          refine ⟨_, load_k rfl rfl (contOf_live push_get) (show [pn x, pn m, pn (vx (cycs n c) x : Nat), pn 0, pn 0, pn 0][1]? = some (pn m) from rfl) (by rfl), ?_⟩
          refine ⟨⟨by omega, by omega⟩, ?_⟩
          refine ⟨_, _, push_get, ⟨rfl, Nat.le_of_ble_eq_true rfl, rfl⟩, _, rfl, _, push_set, ?_⟩
          rw [e1, e2]
          exact ⟨_, by omega, ci ⟨m + 1, _, _, rfl, ⟨rfl, rfl, rfl, rfl, rfl, rfl, rfl, rfl, rfl, trivial⟩, rfl, by omega, by omega⟩⟩
        · have hz : k' ≠ 0 := hz
          have hsg : c j ≠ j := fun e => hz (hk'.2 e)
          have hms : m = sadl f c x := by
            by_cases hlt : m < sadl f c x
            · exact absurd (by rw [hj]; exact hL.2.2 m (by omega) hlt) hsg
            · omega
          have hbelow : g w = c j := by rw [hwu, hj]; exact Hbel.h x m hxn (by omega) (fun i h1 h2 => hL.2.2 i h1 (by omega))
          refine ⟨_, load_c (contOf_live hs1) rfl rfl, ?_⟩
          refine callq rfl (Hve.h j hjn) (by omega) ?_
          rintro _ rfl
          refine ⟨_, _, push_get, ⟨rfl, Nat.le_of_ble_eq_true rfl, rfl⟩, _, rfl, _, push_set, ?_⟩
          refine ⟨by kernel_rfl, ?_⟩
          refine callq rfl (at_ct S hS (xs := ZL P) (x := j) (by omega)) (by omega) ?_
          rintro _ rfl
          refine ⟨_, load_k rfl rfl (contOf_live (push_old hs0)) (show [pIs r, pIs u][1]? = some (pIs u) from rfl) (by rfl), rfl, ?_⟩
          refine ⟨⟨⟨by omega, by omega⟩, len_map_le (by omega)⟩, ?_⟩
          refine ⟨_, ld (at_map (hug w hwn)) (by show _ * 1 = w; omega), rfl, ?_⟩
          rw [hbelow]
          refine callq rfl (at_ct S hS (xs := ZL P) (x := c j) (by omega)) (by omega) ?_
          rintro _ rfl
          refine ⟨_, _, push_get, ⟨rfl, Nat.le_of_ble_eq_true rfl, rfl⟩, _, rfl, _, push_set, ?_⟩
          refine ⟨_, _, push_get, ⟨rfl, Nat.le_of_ble_eq_true rfl, rfl⟩, _, rfl, _, push_set, ?_⟩
          refine ⟨_, load_c (contOf_live push_get) rfl rfl, ?_⟩
          refine ⟨by omega, partc rfl ⟨_, rfl, ?_⟩⟩
          have hsd : sdl n f c x = [(x : Int), (m : Int), (vx (cycs n c) x : Nat), (vx (cycs n c) j : Nat), idx (ZL P) j, idx (ZL P) (c j : Nat)] := by
            unfold sdl
            rw [← hms, ← hj, ← HP.h]
          refine appW (e := 69) (n := k) (cs := sds n f c (P.take k)) (ys := [(x : Int), (m : Int), (vx (cycs n c) x : Nat), (vx (cycs n c) j : Nat), idx (ZL P) j, idx (ZL P) (c j : Nat)]) hw.push.push rfl push_cont rfl rfl rfl rfl (by kernel_rfl) rfl (by omega) (by omega) fun v' σ' hw' hk2 => ?_
          have hs2 := hk2 0 _ hv0 (push_old (push_old hs0))
          have hne := hw'.ne0 hs2
          have hw2 : Gw 69 v' σ' (k + 1) (sds n f c (P.take (k + 1))) := by rw [htk, sds_app, hsd]; exact hw'
          refine ⟨⟨by omega, by omega⟩, ?_⟩
          exact ⟨_, by omega, ci ⟨k + 1, _, _, _, _, rfl, ⟨rfl, rfl, rfl, rfl, rfl, rfl, trivial⟩, rfl, by omega, by omega, ⟨hs2, hw2, hne⟩⟩⟩
    · have hge : (((ZL P).length : Nat) : Int) ≤ k := hge
      have hkP : k = P.length := by omega
      rw [List.take_of_length_le (by omega)] at hw
      obtain ⟨σ2, hF2⟩ := hw.fz
      refine endf hF2 ?_
      rw [hkP, HP.h]
      rfl
end Go.PI
