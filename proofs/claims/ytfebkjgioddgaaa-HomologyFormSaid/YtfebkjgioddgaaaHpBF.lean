/- Own work of the verifier: HoT. -/
import Derived.Test.YtfebkjgioddgaaaHpBE
set_option linter.all false
set_option exponentiation.threshold 3000
set_option linter.deprecated false
/- CROSSINGS, of the program. -/
open Go.Proofs
namespace Go.PI
open IM
set_option maxRecDepth 10000
set_option maxHeartbeats 4000000
variable (S : FuncId → Option (List AV → Heap → Option (AV × Heap)))
variable {n : Nat} {f f' g g' : Nat → Nat}
theorem side_l (hS : OldO S) {i : Int} (hn : n ≤ 60) (hi : -1000000 ≤ i ∧ i ≤ 1000000) : Ct (ctx.plus S) 97 [.lptr (tilO n f f' g g'), pn i] 0 fun w => w = pn (n + i) := by
  have h := Cb.lp (side_cb S hS (v0 := pn (cycs n (cmf f f' g g')).length) (v1 := pn n) (e := .lst (2 * n) (FC (edg n (cmf f f' g g') f f' g g') (2 * n))) (r := PL n f) (u := PL n g) (l := PL n f') (d := PL n g') (cc := cycs n (cmf f f' g g')) (by rw [PL_len]; omega) hi)
  rw [PL_len] at h
  exact h
theorem squares_l (hS : OldO S) : Ct (ctx.plus S) 51 [.lptr (tilO n f f' g g')] 0 fun w => w = pn n := by
  have h := Cb.lp (squares_cb S hS (v0 := pn (cycs n (cmf f f' g g')).length) (v1 := pn n) (e := .lst (2 * n) (FC (edg n (cmf f f' g g') f f' g g') (2 * n))) (r := PL n f) (u := PL n g) (l := PL n f') (d := PL n g') (cc := cycs n (cmf f f' g g')))
  rw [PL_len] at h
  exact h
theorem fn61 : ctx.fn 61 = some c61 := by kernel_rfl
theorem crossings_ct (hS : OldO S) {r u : List Int} (ho : IsO r u n f f' g g') (h6 : n ≤ 6) {B : Nat → Int} (hB : Wi (FL (2 * n) B) 1000000) :
    Ct (ctx.plus S) 61 [.lptr (tilO n f f' g g'), pIs (FL (2 * n) B)] 10 fun w => ∃ τ, w = pIs (FL (2 * n) τ) ∧ Tt (2 * n) τ (fun a => Isn n f f' g g' a B) 10000000000 := by
  have hBi := wi_FL hB
  have hc := ho.cm
  obtain ⟨h0, hn, -, -, pr, pu⟩ := id ho
  have lB : (FL (2 * n) B).length = 2 * n := FL_len
  have l1 : (PL n f).length = n := PL_len
  have l2 : (PL n g).length = n := PL_len
  have l3 : (PL n f').length = n := PL_len
  have l4 : (PL n g').length = n := PL_len
  have side := fun (i : Int) (hi : -1000000 ≤ i ∧ i ≤ 1000000) => side_l S hS (f := f) (f' := f') (g := g) (g' := g') hn hi
  refine ct_of (hS 61 (by decide)) fn61 ?_
  refine ⟨Nat.zero_le _, ?_⟩
  refine ⟨Nat.le_of_ble_eq_true rfl, ?_⟩
  refine ⟨_, rfl, ?_⟩
  refine ⟨by omega, ⟨by omega, by omega, by omega⟩, _, FL_rep, ?_⟩
  refine callq rfl (squares_l S hS) (by omega) ?_
  rintro _ rfl
  refine ⟨by omega, ⟨by omega, by omega, by omega⟩, _, FL_rep, ?_⟩
  refine ⟨fun m s => ∃ (i : Nat) (τ : Nat → Int) (T : List PV), s = ⟨T, [.live 3 ((FL (2 * n) τ).map pn), .live 3 ((FL n (mo n f g B i)).map pn)], 2⟩ ∧ Gt T 182 [(0, .lptr (tilO n f f' g g')), (1, pIs (FL (2 * n) B)), (5, .own 0 0 (2 * n) (2 * n) 1), (6, .own 1 0 n n 1), (27, pn n), (28, pn i)] ∧ m = n - i ∧ i ≤ n ∧ Hid (Tt (2 * n) τ (fun a => sumN (fun i => a (g i) * B (n + i) - a (n + f i) * B i) i) (i * 2000000)), ⟨_, ci ⟨0, fun _ => 0, _, rfl, ⟨rfl, rfl, rfl, rfl, rfl, rfl, rfl, trivial⟩, rfl, Nat.zero_le _, ⟨Tt.zero.is (fun a => rfl) (by decide)⟩⟩⟩, ?_⟩
  rintro _ s ⟨i, τ, T, rfl, hT, rfl, hi, hh⟩
  obtain ⟨J, rfl⟩ := gt_open hT
  clear hT
  have ht := hh.h
  clear hh
  refine ⟨fun hlt => ?_, fun hge => ?_⟩
  · have hin : i < n := by omega
    have hf := pr.lt i hin
    have hg := pu.lt i hin
    have x1 := hBi i (by omega)
    have y1 := hBi (n + i) (by omega)
    obtain ⟨τ1, e1⟩ : ∃ τ1 : Nat → Int, τ1 = fun e => τ e - if e = n + f i then B i else 0 := ⟨_, rfl⟩
    obtain ⟨τ2, e2⟩ : ∃ τ2 : Nat → Int, τ2 = fun e => τ1 e + if e = g i then B (n + i) else 0 := ⟨_, rfl⟩
    have t1 := ht.sub (q := n + f i) (by omega) x1
    rw [← e1] at t1
    have t2 := t1.add (q := g i) (by omega) y1
    rw [← e2] at t2
    obtain ⟨h0, k0⟩ : ∃ h0 : Nat → Int, h0 = mo n f g B i := ⟨_, rfl⟩
    obtain ⟨h1, k1⟩ : ∃ h1 : Nat → Int, h1 = fun w => h0 w - if w = i then B i + B (n + i) else 0 := ⟨_, rfl⟩
    obtain ⟨h2, k2⟩ : ∃ h2 : Nat → Int, h2 = fun w => h1 w + if w = f i then B i else 0 := ⟨_, rfl⟩
    obtain ⟨h3, k3⟩ : ∃ h3 : Nat → Int, h3 = fun w => h2 w + if w = g i then B (n + i) else 0 := ⟨_, rfl⟩
    have b0 : ∀ w, -(i * 4000000) ≤ h0 w ∧ h0 w ≤ i * 4000000 := fun w => by rw [k0]; exact mo_le fun j hj => ⟨hBi j (by omega), hBi (n + j) (by omega)⟩
    have b1 : ∀ w, -(i * 4000000) - 2000000 ≤ h1 w ∧ h1 w ≤ i * 4000000 + 2000000 := fun w => by
      have := b0 w
      rw [k1]
      show _ ≤ h0 w - _ ∧ h0 w - _ ≤ _
      split <;> omega
    have b2 : ∀ w, -(i * 4000000) - 3000000 ≤ h2 w ∧ h2 w ≤ i * 4000000 + 3000000 := fun w => by
      have := b1 w
      rw [k2]
      show _ ≤ h1 w + _ ∧ h1 w + _ ≤ _
      split <;> omega
    have p1 : ∀ q, q = n + f i → pspl ((FL (2 * n) τ).map pn) q [pn (τ (n + f i) - B i)] = (FL (2 * n) τ1).map pn := fun q hq => by rw [e1]; exact FL_sub hq (by omega)
    have p2 : ∀ q, q = g i → pspl ((FL (2 * n) τ1).map pn) q [pn (τ1 (g i) + B (n + i))] = (FL (2 * n) τ2).map pn := fun q hq => by rw [e2]; exact FL_add hq (by omega)
    have a0 : ∀ q, q = i → ((FL n (mo n f g B i)).map pn)[q]? = some (pn (h0 i)) := fun q hq => by rw [hq, k0]; exact at_map (FL_get hin)
    have q1 : ∀ q, q = i → pspl ((FL n (mo n f g B i)).map pn) q [pn (h0 i - (B i + B (n + i)))] = (FL n h1).map pn := fun q hq => by rw [k1, ← k0]; exact FL_sub hq hin
    have q2 : ∀ q, q = f i → pspl ((FL n h1).map pn) q [pn (h1 (f i) + B i)] = (FL n h2).map pn := fun q hq => by rw [k2]; exact FL_add hq hf
    have q3 : ∀ q, q = g i → pspl ((FL n h2).map pn) q [pn (h2 (g i) + B (n + i))] = (FL n h3).map pn := fun q hq => by rw [k3]; exact FL_add hq hg
    have z1 := ht.le (n + f i)
    have z2 := t1.le (g i)
    have z3 := b0 i
    have z4 := b1 (f i)
    have z5 := b2 (g i)
    refine ⟨by kernel_rfl, ?_⟩
    refine ⟨⟨⟨by omega, by omega⟩, len_map_le (by omega)⟩, ?_⟩
    refine ⟨_, ld (at_map (FL_get (show i < 2 * n by omega))) (by show _ * 1 = i; omega), rfl, ?_⟩
    refine callq rfl (side i (by omega)) (by omega) ?_
    rintro _ rfl
    refine ⟨⟨⟨by omega, by omega⟩, len_map_le (by omega)⟩, ?_⟩
    refine ⟨_, ld (at_map (FL_get (show n + i < 2 * n by omega))) (by show _ * 1 = n + i; omega), rfl, ?_⟩
    refine ⟨Nat.le_of_ble_eq_true rfl, ?_⟩
    refine ⟨_, rfl, ?_⟩
    refine ⟨⟨⟨by omega, by omega⟩, len_map_le (by omega)⟩, ?_⟩
    refine ⟨_, ld (at_map (PL_get hin)) (by show _ * 1 = i; omega), ?_⟩
    refine callq rfl (side (f i) (by omega)) (by omega) ?_
    rintro _ rfl
    refine ⟨⟨by omega, by omega⟩, ?_⟩
    refine ⟨_, load_k rfl rfl rfl (at_map (FL_get (show n + f i < 2 * n by omega))) (by show 0 + ((n : Int) + (f i : Int)).toNat * 1 = n + f i; omega), ?_⟩
    refine ⟨⟨by omega, by omega⟩, ?_⟩
    refine ⟨⟨by omega, by omega⟩, ?_⟩
    refine ⟨_, _, rfl, ⟨rfl, by rw [List.length_map, FL_len]; show 0 + ((n : Int) + (f i : Int)).toNat * 1 + 1 ≤ _; omega, rfl⟩, _, p1 (0 + ((n : Int) + (f i : Int)).toNat * 1) (by omega), _, rfl, ?_⟩
    refine ⟨Nat.le_of_ble_eq_true rfl, ?_⟩
    refine ⟨_, rfl, ?_⟩
    refine ⟨⟨⟨by omega, by omega⟩, len_map_le (by omega)⟩, ?_⟩
    refine ⟨_, ld (at_map (PL_get hin)) (by show _ * 1 = i; omega), ?_⟩
    refine ⟨⟨by omega, by omega⟩, ?_⟩
    refine ⟨_, load_k rfl rfl rfl (at_map (FL_get (show g i < 2 * n by omega))) (by show 0 + g i * 1 = g i; omega), ?_⟩
    refine ⟨⟨by omega, by omega⟩, ?_⟩
    refine ⟨⟨by omega, by omega⟩, ?_⟩
    refine ⟨_, _, rfl, ⟨rfl, by rw [List.length_map, FL_len]; show 0 + g i * 1 + 1 ≤ _; omega, rfl⟩, _, p2 (0 + g i * 1) (by omega), _, rfl, ?_⟩
    refine ⟨⟨by omega, by omega⟩, ?_⟩
    refine ⟨_, load_k rfl rfl rfl (a0 _ (by show 0 + i * 1 = i; omega)) rfl, ?_⟩
    refine ⟨⟨by omega, by omega⟩, ?_⟩
    refine ⟨⟨by omega, by omega⟩, ?_⟩
    refine ⟨⟨by omega, by omega⟩, ?_⟩
    refine ⟨_, _, rfl, ⟨rfl, by rw [List.length_map, FL_len]; show 0 + i * 1 + 1 ≤ _; omega, rfl⟩, _, q1 (0 + i * 1) (by omega), _, rfl, ?_⟩
    refine ⟨Nat.le_of_ble_eq_true rfl, ?_⟩
    refine ⟨_, rfl, ?_⟩
    refine ⟨⟨⟨by omega, by omega⟩, len_map_le (by omega)⟩, ?_⟩
    refine ⟨_, ld (at_map (PL_get hin)) (by show _ * 1 = i; omega), ?_⟩
    refine ⟨⟨by omega, by omega⟩, ?_⟩
    refine ⟨_, load_k rfl rfl rfl (at_map (FL_get hf)) (by show 0 + f i * 1 = f i; omega), ?_⟩
    refine ⟨⟨by omega, by omega⟩, ?_⟩
    refine ⟨⟨by omega, by omega⟩, ?_⟩
    refine ⟨_, _, rfl, ⟨rfl, by rw [List.length_map, FL_len]; show 0 + f i * 1 + 1 ≤ _; omega, rfl⟩, _, q2 (0 + f i * 1) (by omega), _, rfl, ?_⟩
    refine ⟨Nat.le_of_ble_eq_true rfl, ?_⟩
    refine ⟨_, rfl, ?_⟩
    refine ⟨⟨⟨by omega, by omega⟩, len_map_le (by omega)⟩, ?_⟩
    refine ⟨_, ld (at_map (PL_get hin)) (by show _ * 1 = i; omega), ?_⟩
    refine ⟨⟨by omega, by omega⟩, ?_⟩
    refine ⟨_, load_k rfl rfl rfl (at_map (FL_get hg)) (by show 0 + g i * 1 = g i; omega), ?_⟩
    refine ⟨⟨by omega, by omega⟩, ?_⟩
    refine ⟨⟨by omega, by omega⟩, ?_⟩
    refine ⟨_, _, rfl, ⟨rfl, by rw [List.length_map, FL_len]; show 0 + g i * 1 + 1 ≤ _; omega, rfl⟩, _, q3 (0 + g i * 1) (by omega), _, rfl, ?_⟩
    refine ⟨⟨by omega, by omega⟩, ?_⟩
    have hmo : FL n h3 = FL n (mo n f g B (i + 1)) := FL_eq fun w hw => by
      show _ = mo n f g B i w + ((if w = f i then B i else 0) + (if w = g i then B (n + i) else 0) - (if w = i then B i + B (n + i) else 0))
      rw [← k0, k3, k2, k1]
      show h0 w - _ + _ + _ = _
      generalize (if w = f i then B i else 0) = x1
      generalize (if w = g i then B (n + i) else 0) = x2
      generalize (if w = i then B i + B (n + i) else 0) = x3
      omega
    rw [hmo]
    refine ⟨_, by omega, ci ⟨i + 1, τ2, _, rfl, ⟨rfl, rfl, rfl, rfl, rfl, rfl, rfl, trivial⟩, rfl, by omega, ⟨t2.is (fun a => ?_) (by omega)⟩⟩⟩
    show _ = sumN _ i + (a (g i) * B (n + i) - a (n + f i) * B i)
    omega
  · have hie : i = n := by omega
    have hmn : FL n (mo n f g B i) = FL n (ex n f' g' B) := FL_eq fun k hk => by rw [hie]; exact mo_end pr pu B hk
    rw [hmn]
    have ht : Tt (2 * n) τ (fun a => Fs n f g a B) (n * 2000000) := by rw [hie] at ht; exact ht
    clear hmn hie hge
    have hM : ∀ k, k < n → -4000000 ≤ ex n f' g' B k ∧ ex n f' g' B k ≤ 4000000 := fun k hk => ex_le pr pu hk hBi
    obtain ⟨C, hC⟩ : ∃ C, C = cycs n (cmf f f' g g') := ⟨_, rfl⟩
    have hcl : C.length ≤ n := by rw [hC]; exact cycs_len (Nat.le_refl n)
    have hce : ∀ l ∈ C, l.length ≤ n := fun l hl => by rw [hC] at hl; exact cycs_mem hc l hl
    have hnum := fun (v : Nat) (l : List Int) (h : C[v]? = some l) => cycs_num (n := n) (c := cmf f f' g g') (by rw [← hC]; exact h)
    have hend : ∀ a, Fs n f g a B + GV n f f' g g' B C.length a = Isn n f f' g g' a B := fun a => by rw [hC]; exact GV_end
    obtain ⟨t0, ht0⟩ : ∃ t0, t0 = tilO n f f' g g' := ⟨_, rfl⟩
    refine ⟨Nat.le_of_ble_eq_true rfl, ?_⟩
    refine ⟨_, rfl, ?_⟩
    rw [← hC, ← ht0]
    refine ⟨fun m s => ∃ (v : Nat) (τ : Nat → Int) (T : List PV), s = ⟨T, [.live 3 ((FL (2 * n) τ).map pn), .live 3 ((FL n (ex n f' g' B)).map pn)], 2⟩ ∧ Gt T 182 [(0, .lptr t0), (5, .own 0 0 (2 * n) (2 * n) 1), (6, .own 1 0 n n 1), (108, pM C), (109, pn C.length), (110, pn v)] ∧ m = C.length - v ∧ v ≤ C.length ∧ Hid (Tt (2 * n) τ (fun a => Fs n f g a B + GV n f f' g g' B v a) (n * 2000000 + v * 600000000)), ⟨_, ci ⟨0, τ, _, rfl, ⟨rfl, rfl, rfl, rfl, rfl, rfl, rfl, trivial⟩, rfl, Nat.zero_le _, ⟨ht.is (fun a => by rw [GV_zero, Int.add_zero]) (by omega)⟩⟩⟩, ?_⟩
    clear ht
    rintro _ s ⟨v, τ, T, rfl, hT, rfl, hv, hh⟩
    obtain ⟨J, rfl⟩ := gt_open hT
    clear hT
    have ht := hh.h
    clear hh
    refine ⟨fun hlt => ?_, fun hge => ?_⟩
    · obtain ⟨l, hl⟩ : ∃ l, C[v]? = some l := ⟨C[v]'(by omega), List.getElem?_eq_getElem _⟩
      obtain ⟨m, hm, hlead, rfl, hmv⟩ := hnum v l hl
      have hll := hce _ (List.mem_of_getElem? hl)
      have hcy : (cyc (cmf f f' g g') m).length = ordr (cmf f f' g g') m := cyc_len
      obtain ⟨P, hP⟩ : ∃ P : Nat → Int, P = sumN (fun s => ex n f' g' B (it (cmf f f' g g') s m)) := ⟨_, rfl⟩
      have hP0 : P 0 = 0 := by rw [hP]; rfl
      have hPs : ∀ j, P (j + 1) = P j + ex n f' g' B (it (cmf f f' g g') j m) := fun j => by rw [hP]; rfl
      have hPb : ∀ j : Nat, -(j * 4000000) ≤ P j ∧ P j ≤ j * 4000000 := fun j => by
        rw [hP]
        exact sumN_le fun s hs => hM _ (it_lt hc hm s)
      refine ⟨⟨⟨by omega, by omega⟩, len_map_le (by omega)⟩, ?_⟩
      refine ⟨_, ld (at_map hl) (by show _ * 1 = v; omega), ?_⟩
      refine ⟨fun q s => ∃ (j : Nat) (τ : Nat → Int) (T : List PV), s = ⟨T, [.live 3 ((FL (2 * n) τ).map pn), .live 3 ((FL n (ex n f' g' B)).map pn)], 2⟩ ∧ Gt T 182 [(0, .lptr t0), (5, .own 0 0 (2 * n) (2 * n) 1), (6, .own 1 0 n n 1), (11, pIs (cyc (cmf f f' g g') m)), (12, pn (P j)), (108, pM C), (109, pn C.length), (110, pn v), (114, pIs (cyc (cmf f f' g g') m)), (115, pn (cyc (cmf f f' g g') m).length), (116, pn j)] ∧ q = (cyc (cmf f f' g g') m).length - j ∧ j ≤ (cyc (cmf f f' g g') m).length ∧ Hid (Tt (2 * n) τ (fun a => Fs n f g a B + GV n f f' g g' B v a + sumN (fun t => P (t + 1) * Wt n f f' g g' a (it (cmf f f' g g') t m)) j) (n * 2000000 + v * 600000000 + j * 100000000)), ⟨_, ci ⟨0, τ, _, rfl, ⟨rfl, rfl, rfl, rfl, rfl, (by rw [hP0]; rfl), rfl, rfl, rfl, rfl, rfl, rfl, trivial⟩, rfl, Nat.zero_le _, ⟨ht.is (fun a => (Int.add_zero _).symm) (by omega)⟩⟩⟩, ?_⟩
      clear ht
      rintro _ s ⟨j, τ, T, rfl, hT, rfl, hj, hh⟩
      obtain ⟨J, rfl⟩ := gt_open hT
      clear hT
      have ht := hh.h
      clear hh
      refine ⟨fun hlt2 => ?_, fun hge2 => ?_⟩
      · have hx := it_lt hc hm j
        have hjo : j < ordr (cmf f f' g g') m := by omega
        have hnx : (cyc (cmf f f' g g') m)[(j + 1) % ordr (cmf f f' g g') m]? = some ((cmf f f' g g' (it (cmf f f' g g') j m) : Nat) : Int) := by
          rcases Nat.lt_or_ge (j + 1) (ordr (cmf f f' g g') m) with h | h
          · rw [Nat.mod_eq_of_lt h]
            exact cyc_at h
          · have he : j + 1 = ordr (cmf f f' g g') m := by omega
            rw [he, Nat.mod_self, cyc_at (by omega)]
            have := (ordr_spec hc hm).2.1
            rw [← he] at this
            exact congrArg (fun x : Nat => some (x : Int)) this.symm
        have hci := cyc_at hjo
        have hPj := hPs j
        have hPB := hPb (j + 1)
        have hPA := hPb j
        have hW : ∀ a, sumN (fun t => P (t + 1) * Wt n f f' g g' a (it (cmf f f' g g') t m)) (j + 1) = sumN (fun t => P (t + 1) * Wt n f f' g g' a (it (cmf f f' g g') t m)) j + P (j + 1) * (a (n + it (cmf f f' g g') j m) - a (f' (it (cmf f f' g g') j m)) - a (n + g' (cmf f f' g g' (it (cmf f f' g g') j m))) + a (cmf f f' g g' (it (cmf f f' g g') j m))) := fun a => rfl
        generalize it (cmf f f' g g') j m = x at hx hnx hci hPj hW
        obtain ⟨y, hy⟩ : ∃ y, y = cmf f f' g g' x := ⟨_, rfl⟩
        have hyn : y < n := hy ▸ hc.lt x hx
        rw [← hy] at hnx hW
        have hf := pr.glt x hx
        have hg := pu.glt y hyn
        have hMx := hM x hx
        obtain ⟨p, hp⟩ : ∃ p, p = P (j + 1) := ⟨_, rfl⟩
        rw [← hp] at hPj hPB hW
        have hpb : -25000000 ≤ p ∧ p ≤ 25000000 := by omega
        obtain ⟨τ1, e1⟩ : ∃ τ1 : Nat → Int, τ1 = fun e => τ e + if e = n + x then p else 0 := ⟨_, rfl⟩
        obtain ⟨τ2, e2⟩ : ∃ τ2 : Nat → Int, τ2 = fun e => τ1 e - if e = f' x then p else 0 := ⟨_, rfl⟩
        obtain ⟨τ3, e3⟩ : ∃ τ3 : Nat → Int, τ3 = fun e => τ2 e - if e = n + g' y then p else 0 := ⟨_, rfl⟩
        obtain ⟨τ4, e4⟩ : ∃ τ4 : Nat → Int, τ4 = fun e => τ3 e + if e = y then p else 0 := ⟨_, rfl⟩
        have t1 := ht.add (q := n + x) (by omega) hpb
        rw [← e1] at t1
        have t2 := t1.sub (q := f' x) (by omega) hpb
        rw [← e2] at t2
        have t3 := t2.sub (q := n + g' y) (by omega) hpb
        rw [← e3] at t3
        have t4 := t3.add (q := y) (by omega) hpb
        rw [← e4] at t4
        have p1 : ∀ q, q = n + x → pspl ((FL (2 * n) τ).map pn) q [pn (τ (n + x) + p)] = (FL (2 * n) τ1).map pn := fun q hq => by rw [e1]; exact FL_add hq (by omega)
        have p2 : ∀ q, q = f' x → pspl ((FL (2 * n) τ1).map pn) q [pn (τ1 (f' x) - p)] = (FL (2 * n) τ2).map pn := fun q hq => by rw [e2]; exact FL_sub hq (by omega)
        have p3 : ∀ q, q = n + g' y → pspl ((FL (2 * n) τ2).map pn) q [pn (τ2 (n + g' y) - p)] = (FL (2 * n) τ3).map pn := fun q hq => by rw [e3]; exact FL_sub hq (by omega)
        have p4 : ∀ q, q = y → pspl ((FL (2 * n) τ3).map pn) q [pn (τ3 y + p)] = (FL (2 * n) τ4).map pn := fun q hq => by rw [e4]; exact FL_add hq (by omega)
        have z1 := ht.le (n + x)
        have z2 := t1.le (f' x)
        have z3 := t2.le (n + g' y)
        have z4 := t3.le y
        have vb : v * 600000000 ≤ 3600000000 := by omega
        have ob : ordr (cmf f f' g g') m ≤ 6 := by omega
        refine ⟨⟨⟨by omega, by omega⟩, len_map_le (by omega)⟩, ?_⟩
        refine ⟨_, ld (at_map hci) (by show _ * 1 = j; omega), ?_⟩
        refine ⟨⟨by omega, by omega⟩, ?_⟩
        refine ⟨_, load_k rfl rfl rfl (at_map (FL_get hx)) (by show 0 + x * 1 = x; omega), ?_⟩
        refine ⟨⟨by omega, by omega⟩, ?_⟩
        rw [← hPj]
        refine ⟨⟨by omega, by omega⟩, ?_⟩
        subst ht0
        have on : (0 : Int) < ordr (cmf f f' g g') m := by omega
        have hmod : ((j : Int) + 1).tmod ((cyc (cmf f f' g g') m).length : Nat) = (((j + 1) % ordr (cmf f f' g g') m : Nat) : Int) := by
          rw [hcy, Int.tmod_eq_emod_of_nonneg (by omega)]
          norm_cast
        have hml := Nat.mod_lt (j + 1) (show 0 < ordr (cmf f f' g g') m by omega)
        have hm0 : (0 : Int) ≤ ((j : Int) + 1).tmod ((cyc (cmf f f' g g') m).length : Nat) := by rw [hmod]; omega
        have hm1 : ((j : Int) + 1).tmod ((cyc (cmf f f' g g') m).length : Nat) < ((cyc (cmf f f' g g') m).length : Nat) := by rw [hmod, hcy]; omega
        have hm2 : (((j : Int) + 1).tmod ((cyc (cmf f f' g g') m).length : Nat)).toNat = (j + 1) % ordr (cmf f f' g g') m := by rw [hmod]; omega
        refine ⟨by omega, ?_⟩
        refine ⟨⟨⟨hm0, hm1⟩, len_map_le (by omega)⟩, ?_⟩
        refine ⟨_, ld (at_map hnx) (by show (Int.toNat _) * 1 = _; exact (Nat.mul_one _).trans hm2), ?_⟩
        refine callq rfl (side x (by omega)) (by omega) ?_
        rintro _ rfl
        refine ⟨⟨by omega, by omega⟩, ?_⟩
        refine ⟨_, load_k rfl rfl rfl (at_map (FL_get (show n + x < 2 * n by omega))) (by show 0 + ((n : Int) + (x : Int)).toNat * 1 = n + x; omega), ?_⟩
        refine ⟨⟨by omega, by omega⟩, ?_⟩
        refine ⟨⟨by omega, by omega⟩, ?_⟩
        refine ⟨_, _, rfl, ⟨rfl, by rw [List.length_map, FL_len]; show 0 + ((n : Int) + (x : Int)).toNat * 1 + 1 ≤ _; omega, rfl⟩, _, p1 (0 + ((n : Int) + (x : Int)).toNat * 1) (by omega), _, rfl, ?_⟩
        refine ⟨Nat.le_of_ble_eq_true rfl, ?_⟩
        refine ⟨_, rfl, ?_⟩
        refine ⟨⟨⟨by omega, by omega⟩, len_map_le (by omega)⟩, ?_⟩
        refine ⟨_, ld (at_map (PL_get hx)) (by show _ * 1 = x; omega), ?_⟩
        refine ⟨⟨by omega, by omega⟩, ?_⟩
        refine ⟨_, load_k rfl rfl rfl (at_map (FL_get (show f' x < 2 * n by omega))) (by show 0 + f' x * 1 = f' x; omega), ?_⟩
        refine ⟨⟨by omega, by omega⟩, ?_⟩
        refine ⟨⟨by omega, by omega⟩, ?_⟩
        refine ⟨_, _, rfl, ⟨rfl, by rw [List.length_map, FL_len]; show 0 + f' x * 1 + 1 ≤ _; omega, rfl⟩, _, p2 (0 + f' x * 1) (by omega), _, rfl, ?_⟩
        refine ⟨Nat.le_of_ble_eq_true rfl, ?_⟩
        refine ⟨_, rfl, ?_⟩
        refine ⟨⟨⟨by omega, by omega⟩, len_map_le (by omega)⟩, ?_⟩
        refine ⟨_, ld (at_map (PL_get hyn)) (by show _ * 1 = y; omega), ?_⟩
        refine callq rfl (side (g' y) (by omega)) (by omega) ?_
        rintro _ rfl
        refine ⟨⟨by omega, by omega⟩, ?_⟩
        refine ⟨_, load_k rfl rfl rfl (at_map (FL_get (show n + g' y < 2 * n by omega))) (by show 0 + ((n : Int) + (g' y : Int)).toNat * 1 = n + g' y; omega), ?_⟩
        refine ⟨⟨by omega, by omega⟩, ?_⟩
        refine ⟨⟨by omega, by omega⟩, ?_⟩
        refine ⟨_, _, rfl, ⟨rfl, by rw [List.length_map, FL_len]; show 0 + ((n : Int) + (g' y : Int)).toNat * 1 + 1 ≤ _; omega, rfl⟩, _, p3 (0 + ((n : Int) + (g' y : Int)).toNat * 1) (by omega), _, rfl, ?_⟩
        refine ⟨⟨by omega, by omega⟩, ?_⟩
        refine ⟨_, load_k rfl rfl rfl (at_map (FL_get (show y < 2 * n by omega))) (by show 0 + y * 1 = y; omega), ?_⟩
        refine ⟨⟨by omega, by omega⟩, ?_⟩
        refine ⟨⟨by omega, by omega⟩, ?_⟩
        refine ⟨_, _, rfl, ⟨rfl, by rw [List.length_map, FL_len]; show 0 + y * 1 + 1 ≤ _; omega, rfl⟩, _, p4 (0 + y * 1) (by omega), _, rfl, ?_⟩
        refine ⟨⟨by omega, by omega⟩, ?_⟩
        refine ⟨_, by omega, ci ⟨j + 1, τ4, _, rfl, ⟨rfl, rfl, rfl, rfl, rfl, congrArg pn hp, rfl, rfl, rfl, rfl, rfl, rfl, trivial⟩, rfl, by omega, ⟨t4.is (fun a => ?_) (by omega)⟩⟩⟩
        rw [hW]
        generalize sumN (fun t => P (t + 1) * Wt n f f' g g' a (it (cmf f f' g g') t m)) j = q0
        grind
      · refine ⟨⟨by omega, by omega⟩, ?_⟩
        have hje : j = ordr (cmf f f' g g') m := by omega
        subst hje
        refine ⟨_, by omega, ci ⟨v + 1, τ, _, rfl, ⟨rfl, rfl, rfl, rfl, rfl, rfl, rfl, trivial⟩, rfl, by omega, ⟨ht.is (fun a => ?_) (by omega)⟩⟩⟩
        rw [GV_next hm hlead hmv, hP]
        exact Int.add_assoc _ _ _
    · have hve : v = C.length := by omega
      refine endf (fz_ints (xs := FL (2 * n) τ) rfl (by rw [FL_len])) ⟨τ, rfl, ht.is (fun a => by rw [hve]; exact hend a) (by omega)⟩
end Go.PI
