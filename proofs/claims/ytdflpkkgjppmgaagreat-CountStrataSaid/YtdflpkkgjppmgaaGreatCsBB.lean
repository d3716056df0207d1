/- Own work of the verifier: CoY CoZ CpA CpB. -/
import Derived.Test.YtdflpkkgjppmgaaGreatCsBA
set_option linter.all false
set_option exponentiation.threshold 3000
set_option linter.deprecated false
/- slices.Reverse. -/
open Go.Proofs
namespace Go.PI
open IM
set_option maxRecDepth 20000
set_option maxHeartbeats 4000000
variable (S : FuncId → Option (List AV → Heap → Option (AV × Heap)))
theorem int_put {xs : List Int} {o j : Nat} {y : Int} (ho : o = j) (hj : j < xs.length) : pspl (xs.map pn) o [pn y] = (xs.set j y).map pn := by
  subst ho
  rw [spl_one (by rw [List.length_map]; exact hj), List.map_set]
def Rv (xs ys : List Int) (i : Nat) : Prop := ys.length = xs.length ∧ ∀ k, k < xs.length → ys[k]? = if k < i ∨ xs.length ≤ k + i then xs[xs.length - 1 - k]? else xs[k]?
theorem rv_zero (xs : List Int) : Rv xs xs 0 := ⟨rfl, fun k hk => by rw [if_neg (by omega)]⟩
theorem rv_end {xs ys : List Int} {i : Nat} (h : Rv xs ys i) (hi : xs.length ≤ 2 * i + 1) : ys = xs.reverse := by
  apply List.ext_getElem?
  intro k
  by_cases hk : k < xs.length
  · rw [h.2 k hk, List.getElem?_reverse hk]
    by_cases hc : k < i ∨ xs.length ≤ k + i
    · rw [if_pos hc]
    · rw [if_neg hc, show xs.length - 1 - k = k by omega]
  · rw [List.getElem?_eq_none (by rw [h.1]; omega), List.getElem?_eq_none (by simp; omega)]
theorem rv_step {xs ys : List Int} {i j : Nat} {x y : Int} (h : Rv xs ys i) (hj : j + i + 1 = xs.length) (hij : i < j) (hx : ys[i]? = some x) (hy : ys[j]? = some y) : Rv xs ((ys.set i y).set j x) (i + 1) := by
  refine ⟨by simp [h.1], fun k hk => ?_⟩
  have hxi := h.2 i (by omega)
  have hyj := h.2 j (by omega)
  rw [hx, if_neg (by omega)] at hxi
  rw [hy, if_neg (by omega)] at hyj
  rw [List.getElem?_set]
  by_cases e1 : j = k
  · subst e1
    rw [if_pos rfl, if_pos (by rw [List.length_set, h.1]; omega), if_pos (by omega), hxi]
    congr 1
    omega
  · rw [if_neg e1, List.getElem?_set]
    by_cases e2 : i = k
    · subst e2
      rw [if_pos rfl, if_pos (by rw [h.1]; omega), if_pos (by omega), hyj]
      congr 1
      omega
    · rw [if_neg e2, h.2 k hk]
      by_cases hc : k < i ∨ xs.length ≤ k + i
      · rw [if_pos hc, if_pos (by omega)]
      · rw [if_neg hc, if_neg (by omega)]
theorem set_same {α : Type} {l : List α} {j : Nat} {x : α} (h : l[j]? = some x) : l.set j x = l := by
  obtain ⟨h1, rfl⟩ := List.getElem?_eq_some_iff.1 h
  exact List.set_getElem_self h1
theorem fn113 : ctx.fn 113 = some c113 := by kernel_rfl
theorem reverse_cm (hS : OldO S) {σ : List StB} {jv n : Nat} {xs : List Int} {v : PV} (hv : v = .own jv 0 n n 1 ∨ v = .ownu jv n 1) (hj : σ[jv]? = some (.live 3 (xs.map pn))) (hl : xs.length = n) (hn : n ≤ 1000) :
    Cm (ctx.plus S) 113 [v] σ 0 fun w σ' => w = .tup [] ∧ σ' = σ.set jv (.live 3 (xs.reverse.map pn)) := by
  refine cm_of Opn.no (hS 113 (by decide)) fn113 fun c k0 hc => ?_
  have hjl := (List.getElem?_eq_some_iff.1 hj).1
  rcases hv with rfl | rfl
  · refine ⟨⟨by omega, by omega⟩, ?_⟩
    refine ⟨fun q s => ∃ (i : Nat) (j : Int) (zs : List Int) (T : List PV), s = ⟨T, σ.set jv (.live 3 (zs.map pn)), k0⟩ ∧ Gt T 28 [(0, .own jv 0 n n 1), (2, pn i), (3, pn j)] ∧ q = n - i ∧ (j = n - 1 - i ∧ i ≤ n) ∧ Hid (Rv xs zs i), ⟨_, ci ⟨0, _, xs, _, by rw [set_same hj], ⟨rfl, rfl, rfl, rfl, trivial⟩, rfl, ⟨by omega, by omega⟩, ⟨rv_zero xs⟩⟩⟩, ?_⟩
    rintro q s ⟨i, j, zs, T, rfl, hT, hq, ⟨hji, hin⟩, hR⟩
    obtain ⟨J, rfl⟩ := gt_open hT
    clear hT
    have hzl : zs.length = n := by rw [hR.h.1]; exact hl
    have hat : (σ.set jv (.live 3 (zs.map pn)))[jv]? = some (.live 3 (zs.map pn)) := List.getElem?_set_self hjl
    have hc1 := contOf_live hat
    refine ⟨fun hlt => ?_, fun hge => ?_⟩
    · obtain ⟨m, rfl⟩ : ∃ m : Nat, j = m := ⟨j.toNat, by omega⟩
      obtain ⟨x, hx⟩ := xs_get (xs := zs) (i := i) (by omega)
      obtain ⟨y, hy⟩ := xs_get (xs := zs) (i := m) (by omega)
      refine ⟨by kernel_rfl, ?_⟩
      refine ⟨⟨by omega, by omega⟩, ?_⟩
      refine ⟨_, load_k rfl rfl hc1 (at_map hy) (by show 0 + _ * 1 = m; omega), rfl, ?_⟩
      refine ⟨⟨by omega, by omega⟩, ?_⟩
      refine ⟨_, load_k rfl rfl hc1 (at_map hx) (by show 0 + _ * 1 = i; omega), rfl, ?_⟩
      refine ⟨⟨by omega, by omega⟩, ?_⟩
      refine ⟨_, _, hat, ⟨rfl, by rw [List.length_map]; show 0 + (i : Int).toNat * 1 + 1 ≤ _; omega, rfl⟩, _, int_put (j := i) (by show 0 + _ * 1 = i; omega) (by omega), _, rfl, ?_⟩
      refine ⟨⟨by omega, by omega⟩, ?_⟩
      refine ⟨_, _, List.getElem?_set_self (by rw [List.length_set]; exact hjl), ⟨rfl, by rw [List.length_map, List.length_set]; show 0 + (m : Int).toNat * 1 + 1 ≤ _; omega, rfl⟩, _, int_put (j := m) (by show 0 + _ * 1 = m; omega) (by rw [List.length_set]; omega), _, by rw [List.set_set, List.set_set], ?_⟩
      refine ⟨⟨by omega, by omega⟩, ?_⟩
      refine ⟨⟨by omega, by omega⟩, ?_⟩
      exact ⟨_, by omega, ci ⟨i + 1, (m : Int) - 1, _, _, rfl, ⟨rfl, rfl, by show pn _ = pn _; norm_cast, rfl, trivial⟩, rfl, ⟨by omega, by omega⟩, ⟨rv_step hR.h (by omega) (by omega) hx hy⟩⟩⟩
    · have he := rv_end hR.h (by omega)
      refine endm [] (by dsimp only; omega) ?_
      rw [he]
      exact ⟨rfl, rfl⟩
  · refine ⟨⟨by omega, by omega⟩, ?_⟩
    refine ⟨fun q s => ∃ (i : Nat) (j : Int) (zs : List Int) (T : List PV), s = ⟨T, σ.set jv (.live 3 (zs.map pn)), k0⟩ ∧ Gt T 28 [(0, .ownu jv n 1), (2, pn i), (3, pn j)] ∧ q = n - i ∧ (j = n - 1 - i ∧ i ≤ n) ∧ Hid (Rv xs zs i), ⟨_, ci ⟨0, _, xs, _, by rw [set_same hj], ⟨rfl, rfl, rfl, rfl, trivial⟩, rfl, ⟨by omega, by omega⟩, ⟨rv_zero xs⟩⟩⟩, ?_⟩
    rintro q s ⟨i, j, zs, T, rfl, hT, hq, ⟨hji, hin⟩, hR⟩
    obtain ⟨J, rfl⟩ := gt_open hT
    clear hT
    have hzl : zs.length = n := by rw [hR.h.1]; exact hl
    have hat : (σ.set jv (.live 3 (zs.map pn)))[jv]? = some (.live 3 (zs.map pn)) := List.getElem?_set_self hjl
    have hc1 := contOf_live hat
    refine ⟨fun hlt => ?_, fun hge => ?_⟩
    · obtain ⟨m, rfl⟩ : ∃ m : Nat, j = m := ⟨j.toNat, by omega⟩
      obtain ⟨x, hx⟩ := xs_get (xs := zs) (i := i) (by omega)
      obtain ⟨y, hy⟩ := xs_get (xs := zs) (i := m) (by omega)
      refine ⟨by kernel_rfl, ?_⟩
      refine ⟨⟨by omega, by omega⟩, ?_⟩
      refine ⟨_, load_k rfl rfl hc1 (at_map hy) (by show 0 + _ * 1 = m; omega), rfl, ?_⟩
      refine ⟨⟨by omega, by omega⟩, ?_⟩
      refine ⟨_, load_k rfl rfl hc1 (at_map hx) (by show 0 + _ * 1 = i; omega), rfl, ?_⟩
      refine ⟨⟨by omega, by omega⟩, ?_⟩
      refine ⟨_, _, hat, ⟨rfl, by rw [List.length_map]; show 0 + (i : Int).toNat * 1 + 1 ≤ _; omega, rfl⟩, _, int_put (j := i) (by show 0 + _ * 1 = i; omega) (by omega), _, rfl, ?_⟩
      refine ⟨⟨by omega, by omega⟩, ?_⟩
      refine ⟨_, _, List.getElem?_set_self (by rw [List.length_set]; exact hjl), ⟨rfl, by rw [List.length_map, List.length_set]; show 0 + (m : Int).toNat * 1 + 1 ≤ _; omega, rfl⟩, _, int_put (j := m) (by show 0 + _ * 1 = m; omega) (by rw [List.length_set]; omega), _, by rw [List.set_set, List.set_set], ?_⟩
      refine ⟨⟨by omega, by omega⟩, ?_⟩
      refine ⟨⟨by omega, by omega⟩, ?_⟩
      exact ⟨_, by omega, ci ⟨i + 1, (m : Int) - 1, _, _, rfl, ⟨rfl, rfl, by show pn _ = pn _; norm_cast, rfl, trivial⟩, rfl, ⟨by omega, by omega⟩, ⟨rv_step hR.h (by omega) (by omega) hx hy⟩⟩⟩
    · have he := rv_end hR.h (by omega)
      refine endm [] (by dsimp only; omega) ?_
      rw [he]
      exact ⟨rfl, rfl⟩
end Go.PI
/- TYPES OF STRATA, of the program. -/
open Go.Proofs
namespace Go.PI
open IM
set_option maxRecDepth 20000
set_option maxHeartbeats 4000000
variable (S : FuncId → Option (List AV → Heap → Option (AV × Heap)))
theorem size_cm (hS : OldO S) {xs : List Int} {σ : List StB} {v : PV} (h : Few xs) (hg : Gl v σ xs) : Cm (ctx.plus S) 88 [v] σ 0 fun r σ' => r = pn (sm xs) ∧ σ' = σ := by
  have hl := h.1
  refine cm_of Opn.no (hS 88 (by decide)) fn88 fun c k0 hc => ?_
  rcases hg with ⟨rfl, rfl⟩ | ⟨j, rfl, hj⟩ | ⟨j, rfl, hj⟩
  · refine ⟨fun m s => ∃ (T : List PV), s = ⟨T, σ, k0⟩ ∧ Gt T 17 [(3, pn 0), (6, .nils), (7, pn 0), (8, pn 0)] ∧ m = 0, ⟨_, ci ⟨_, rfl, ⟨rfl, rfl, rfl, rfl, rfl, trivial⟩, rfl⟩⟩, ?_⟩
    rintro m s ⟨T, rfl, hT, hm⟩
    obtain ⟨J, rfl⟩ := gt_open hT
    clear hT
    refine ⟨fun hlt => by omega, fun hge => ?_⟩
    exact endm [] (by dsimp only; omega) ⟨rfl, rfl⟩
  · refine ⟨fun m s => ∃ (i : Nat) (T : List PV), s = ⟨T, σ, k0⟩ ∧ Gt T 17 [(3, pn (sm (xs.take i))), (6, .own j 0 xs.length xs.length 1), (7, pn xs.length), (8, pn i)] ∧ m = xs.length - i ∧ i ≤ xs.length, ⟨_, ci ⟨0, _, rfl, ⟨rfl, rfl, rfl, rfl, rfl, trivial⟩, rfl, Nat.zero_le _⟩⟩, ?_⟩
    rintro m s ⟨i, T, rfl, hT, hm, hi⟩
    obtain ⟨J, rfl⟩ := gt_open hT
    clear hT
    have hb := sm_bdt h i
    have hc1 := contOf_live hj
    refine ⟨fun hlt => ?_, fun hge => ?_⟩
    · obtain ⟨x, hx⟩ := xs_get (xs := xs) (i := i) (by omega)
      have hxb := h.2 x (List.mem_of_getElem? hx)
      refine ⟨⟨by omega, by omega⟩, ?_⟩
      refine ⟨_, load_k rfl rfl hc1 (at_map hx) (by show 0 + _ * 1 = i; omega), ?_⟩
      refine ⟨⟨by omega, by omega⟩, ?_⟩
      refine ⟨⟨by omega, by omega⟩, ?_⟩
      exact ⟨_, by omega, ci ⟨i + 1, _, rfl, ⟨rfl, by show pn _ = pn _; rw [sm_next hx], rfl, rfl, by show pn _ = pn _; norm_cast, trivial⟩, rfl, by omega⟩⟩
    · have : i = xs.length := by omega
      subst this
      refine endm [] (by dsimp only; omega) ?_
      exact ⟨by rw [List.take_of_length_le (Nat.le_refl _)]; rfl, rfl⟩
  · refine ⟨fun m s => ∃ (i : Nat) (T : List PV), s = ⟨T, σ, k0⟩ ∧ Gt T 17 [(3, pn (sm (xs.take i))), (6, .ownu j xs.length 1), (7, pn xs.length), (8, pn i)] ∧ m = xs.length - i ∧ i ≤ xs.length, ⟨_, ci ⟨0, _, rfl, ⟨rfl, rfl, rfl, rfl, rfl, trivial⟩, rfl, Nat.zero_le _⟩⟩, ?_⟩
    rintro m s ⟨i, T, rfl, hT, hm, hi⟩
    obtain ⟨J, rfl⟩ := gt_open hT
    clear hT
    have hb := sm_bdt h i
    have hc1 := contOf_live hj
    refine ⟨fun hlt => ?_, fun hge => ?_⟩
    · obtain ⟨x, hx⟩ := xs_get (xs := xs) (i := i) (by omega)
      have hxb := h.2 x (List.mem_of_getElem? hx)
      refine ⟨⟨by omega, by omega⟩, ?_⟩
      refine ⟨_, load_k rfl rfl hc1 (at_map hx) (by show 0 + _ * 1 = i; omega), ?_⟩
      refine ⟨⟨by omega, by omega⟩, ?_⟩
      refine ⟨⟨by omega, by omega⟩, ?_⟩
      exact ⟨_, by omega, ci ⟨i + 1, _, rfl, ⟨rfl, by show pn _ = pn _; rw [sm_next hx], rfl, rfl, by show pn _ = pn _; norm_cast, trivial⟩, rfl, by omega⟩⟩
    · have : i = xs.length := by omega
      subst this
      refine endm [] (by dsimp only; omega) ?_
      exact ⟨by rw [List.take_of_length_le (Nat.le_refl _)]; rfl, rfl⟩
def inc1 (xs : List Int) : List Int := xs.map fun x => x + 1
theorem inc1_next {xs : List Int} {i : Nat} {x : Int} (h : xs[i]? = some x) : inc1 (xs.take (i + 1)) = inc1 (xs.take i) ++ [x + 1] := by
  unfold inc1
  rw [List.take_add_one, h, List.map_append]
  rfl
theorem sm_inc1 (xs : List Int) : sm (inc1 xs) = sm xs + xs.length := by
  induction xs with
  | nil => rfl
  | cons x xs ih =>
    show x + 1 + sm (inc1 xs) = x + sm xs + ((xs.length + 1 : Nat) : Int)
    rw [ih]; omega
structure OrdN (n : Int) (xs : List Int) : Prop where
  rng : 1 ≤ n ∧ n ≤ 20
  len : xs.length ≤ 1000
  el : ∀ x ∈ xs, 0 ≤ x ∧ x ≤ 20
  fit : sm xs + (xs.length : Int) ≤ n
def tyL (n : Int) (xs : List Int) : List Int := inc1 xs ++ List.replicate (n - sm xs - xs.length).toNat 1
theorem calf2 {dr : Bool} {C : Ctx} {c k d : Nat} {σ σ1 σ2 : List StB} {g : FuncId} {K : PV → List StB → Nat → Prop} {v w p q : PV} {Q : TypeId → Nat → Nat → Nat → List PV → Prop} (h1 : Fz v σ p σ1) (h2 : Fz w σ1 q σ2) (h : Cfr C g [p, q] d Q) (hk : k + d ≤ c)
    (hK : ∀ ty n cp e cs, Q ty n cp e cs → K (.own σ2.length 0 n cp e) (σ2 ++ [.live ty cs]) (k + d)) : ArgK dr C c k σ g [v, w] K := ⟨.inl (h1 _ (h2 _ ⟨⟨d, hk, .inr (.inl ⟨Q, h, hK⟩)⟩⟩))⟩
theorem fn94 : ctx.fn 94 = some c94 := by kernel_rfl
theorem typeOf_ct (hS : OldO S) (hs : S 112 = some sSort) {n : Int} {xs : List Int} (h : OrdN n xs) : Ct (ctx.plus S) 94 [pn n, pIs xs] 5000 fun r => r = pIs (dsc (tyL n xs)) := by
  have hl := h.len
  have hb0 := sm_bd (xs := xs) fun x hx => by have := h.el x hx; omega
  have hlen20 : xs.length ≤ 20 := by have := h.fit; have := h.rng; omega
  refine ct_of (hS 94 (by decide)) fn94 ?_
  refine ⟨fun m s => ∃ (i b : Nat) (v : PV) (σ : List StB) (T : List PV), s = ⟨T, σ, b⟩ ∧ Gt T 33 [(0, pn n), (5, v), (8, pIs xs), (9, pn xs.length), (10, pn i)] ∧ m = xs.length - i ∧ i ≤ xs.length ∧ b ≤ 2 * i ∧ Hid (Gl v σ (inc1 (xs.take i))), ⟨_, ci ⟨0, 0, .nils, [], _, rfl, ⟨rfl, rfl, rfl, rfl, rfl, rfl, trivial⟩, rfl, Nat.zero_le _, Nat.le_refl _, ⟨.inl ⟨rfl, rfl⟩⟩⟩⟩, ?_⟩
  rintro m s ⟨i, b, v, σ, T, rfl, hT, hm, hi, hbk, hg⟩
  obtain ⟨J, rfl⟩ := gt_open hT
  clear hT
  refine ⟨fun hlt => ?_, fun hge => ?_⟩
  · obtain ⟨x, hx⟩ := xs_get (xs := xs) (i := i) (by omega)
    have hxb := h.el x (List.mem_of_getElem? hx)
    refine ⟨⟨⟨by omega, by omega⟩, len_map_le (by omega)⟩, ?_⟩
    refine ⟨_, ld (at_map hx) (by show _ * 1 = i; omega), ?_⟩
    refine ⟨⟨by omega, by omega⟩, ?_⟩
    refine ⟨by omega, part1 fzI ⟨[pn (x + 1)], rfl, ?_⟩⟩
    refine app1 S (x := x + 1) hg.h.push push_cont (by unfold inc1; simp; omega) (by omega) fun v1 σ1 k1 hk1 hk1' hg1 => ?_
    refine ⟨⟨by omega, by omega⟩, ?_⟩
    exact ⟨_, by omega, ci ⟨i + 1, k1, v1, σ1, _, rfl, ⟨rfl, rfl, rfl, rfl, rfl, by show pn _ = pn _; norm_cast, trivial⟩, rfl, by omega, by omega, ⟨by rw [inc1_next hx]; exact hg1⟩⟩⟩
  · have hin : i = xs.length := by omega
    subst hin
    have hg0 := hg.h
    rw [List.take_of_length_le (Nat.le_refl _)] at hg0
    have hil : (inc1 xs).length = xs.length := by unfold inc1; simp
    have hfw : Few (inc1 xs) := ⟨by omega, fun y hy => by
      unfold inc1 at hy
      obtain ⟨x, hx, rfl⟩ := List.mem_map.1 hy
      have := h.el x hx
      omega⟩
    refine ⟨by omega, part1 fzI ⟨[pn 1], rfl, ?_⟩⟩
    refine callm (size_cm S hS hfw hg0.push) (by omega) ?_
    rintro _ _ ⟨rfl, rfl⟩
    have hsi := sm_inc1 xs
    have hf := h.fit
    have hn := h.rng
    refine ⟨⟨by omega, by omega⟩, ?_⟩
    obtain ⟨q, hq⟩ : ∃ q : Nat, n - sm (inc1 xs) = q := ⟨(n - sm (inc1 xs)).toNat, by omega⟩
    rw [hq]
    have hqv : (n - sm xs - xs.length).toNat = q := by omega
    have htl : tyL n xs = inc1 xs ++ List.replicate q 1 := by unfold tyL; rw [hqv]
    have hlq : (inc1 xs ++ List.replicate q 1).length ≤ 1000 := by simp; omega
    have hlt0 : 0 < (inc1 xs ++ List.replicate q 1).length := by
      rw [List.length_append, List.length_replicate, hil]
      rcases Nat.eq_zero_or_pos xs.length with h0 | h0
      · have : xs = [] := List.eq_nil_of_length_eq_zero h0
        subst this
        have : sm (inc1 []) = 0 := rfl
        omega
      · omega
    rcases Nat.eq_zero_or_pos q with hq0 | hq0
    · subst hq0
      refine calf2 (fz_own (n := 1) (c := 1) (cs' := [pn 1]) push_cont (Nat.le_refl 1) (by decide) rfl) fzI (repeat0_cf S hS (a := 1)) (by omega) ?_
      rintro ty m' cp e cs ⟨rfl, hm', hcp, rfl, rfl⟩
      rw [push_set, hm', hcp]
      refine app2 S (xs := List.replicate 0 1) hg0.push.push push_cont (by simp) (by rw [List.length_replicate]; omega) (by omega) (by omega) fun v3 σ3 k3 hk3 hk3' hg3 => ?_
      have hle : (inc1 xs ++ List.replicate 0 1).length < 1000000000 := by omega
      rcases hg3 with ⟨rfl, h0⟩ | ⟨j, rfl, hj⟩ | ⟨j, rfl, hj⟩
      · rw [h0] at hlt0
        exact absurd hlt0 (by simp)
      · have hjl := (List.getElem?_eq_some_iff.1 hj).1
        refine callm (sort_cm S hs (xs := inc1 xs ++ List.replicate 0 1) (.inl rfl) hj rfl hlt0 hle) (by omega) ?_
        rintro _ _ ⟨rfl, rfl⟩
        refine callm (reverse_cm S hS (xs := srt (inc1 xs ++ List.replicate 0 1)) (n := (inc1 xs ++ List.replicate 0 1).length) (.inl rfl) (List.getElem?_set_self hjl) (srt_len _) hlq) (by omega) ?_
        rintro _ _ ⟨rfl, rfl⟩
        have hat2 : ((σ3.set j (.live 3 ((srt (inc1 xs ++ List.replicate 0 1)).map pn))).set j (.live 3 ((srt (inc1 xs ++ List.replicate 0 1)).reverse.map pn)))[j]? = some (.live 3 ((dsc (inc1 xs ++ List.replicate 0 1)).map pn)) := List.getElem?_set_self (by rw [List.length_set]; exact hjl)
        obtain ⟨σ4, hf⟩ := Gl.fz (ys := dsc (inc1 xs ++ List.replicate 0 1)) (.inr (.inl ⟨j, by rw [dsc_len], hat2⟩))
        exact endf hf (by rw [htl])
      · have hjl := (List.getElem?_eq_some_iff.1 hj).1
        refine callm (sort_cm S hs (xs := inc1 xs ++ List.replicate 0 1) (.inr rfl) hj rfl hlt0 hle) (by omega) ?_
        rintro _ _ ⟨rfl, rfl⟩
        refine callm (reverse_cm S hS (xs := srt (inc1 xs ++ List.replicate 0 1)) (n := (inc1 xs ++ List.replicate 0 1).length) (.inr rfl) (List.getElem?_set_self hjl) (srt_len _) hlq) (by omega) ?_
        rintro _ _ ⟨rfl, rfl⟩
        have hat2 : ((σ3.set j (.live 3 ((srt (inc1 xs ++ List.replicate 0 1)).map pn))).set j (.live 3 ((srt (inc1 xs ++ List.replicate 0 1)).reverse.map pn)))[j]? = some (.live 3 ((dsc (inc1 xs ++ List.replicate 0 1)).map pn)) := List.getElem?_set_self (by rw [List.length_set]; exact hjl)
        obtain ⟨σ4, hf⟩ := Gl.fz (ys := dsc (inc1 xs ++ List.replicate 0 1)) (.inr (.inr ⟨j, by rw [dsc_len], hat2⟩))
        exact endf hf (by rw [htl])
    · skip
      refine calf2 (fz_own (n := 1) (c := 1) (cs' := [pn 1]) push_cont (Nat.le_refl 1) (by decide) rfl) fzI (repeatI_cf S hS (a := 1) (n := q) hq0 (by omega)) (by omega) ?_
      rintro ty m' cp e cs ⟨rfl, hm', hcp, rfl, rfl⟩
      rw [push_set, hm', hcp]
      refine app2 S (xs := List.replicate q 1) hg0.push.push push_cont (by simp) (by rw [List.length_replicate]; omega) (by omega) (by omega) fun v3 σ3 k3 hk3 hk3' hg3 => ?_
      have hle : (inc1 xs ++ List.replicate q 1).length < 1000000000 := by omega
      rcases hg3 with ⟨rfl, h0⟩ | ⟨j, rfl, hj⟩ | ⟨j, rfl, hj⟩
      · rw [h0] at hlt0
        exact absurd hlt0 (by simp)
      · have hjl := (List.getElem?_eq_some_iff.1 hj).1
        refine callm (sort_cm S hs (xs := inc1 xs ++ List.replicate q 1) (.inl rfl) hj rfl hlt0 hle) (by omega) ?_
        rintro _ _ ⟨rfl, rfl⟩
        refine callm (reverse_cm S hS (xs := srt (inc1 xs ++ List.replicate q 1)) (n := (inc1 xs ++ List.replicate q 1).length) (.inl rfl) (List.getElem?_set_self hjl) (srt_len _) hlq) (by omega) ?_
        rintro _ _ ⟨rfl, rfl⟩
        have hat2 : ((σ3.set j (.live 3 ((srt (inc1 xs ++ List.replicate q 1)).map pn))).set j (.live 3 ((srt (inc1 xs ++ List.replicate q 1)).reverse.map pn)))[j]? = some (.live 3 ((dsc (inc1 xs ++ List.replicate q 1)).map pn)) := List.getElem?_set_self (by rw [List.length_set]; exact hjl)
        obtain ⟨σ4, hf⟩ := Gl.fz (ys := dsc (inc1 xs ++ List.replicate q 1)) (.inr (.inl ⟨j, by rw [dsc_len], hat2⟩))
        exact endf hf (by rw [htl])
      · have hjl := (List.getElem?_eq_some_iff.1 hj).1
        refine callm (sort_cm S hs (xs := inc1 xs ++ List.replicate q 1) (.inr rfl) hj rfl hlt0 hle) (by omega) ?_
        rintro _ _ ⟨rfl, rfl⟩
        refine callm (reverse_cm S hS (xs := srt (inc1 xs ++ List.replicate q 1)) (n := (inc1 xs ++ List.replicate q 1).length) (.inr rfl) (List.getElem?_set_self hjl) (srt_len _) hlq) (by omega) ?_
        rintro _ _ ⟨rfl, rfl⟩
        have hat2 : ((σ3.set j (.live 3 ((srt (inc1 xs ++ List.replicate q 1)).map pn))).set j (.live 3 ((srt (inc1 xs ++ List.replicate q 1)).reverse.map pn)))[j]? = some (.live 3 ((dsc (inc1 xs ++ List.replicate q 1)).map pn)) := List.getElem?_set_self (by rw [List.length_set]; exact hjl)
        obtain ⟨σ4, hf⟩ := Gl.fz (ys := dsc (inc1 xs ++ List.replicate q 1)) (.inr (.inr ⟨j, by rw [dsc_len], hat2⟩))
        exact endf hf (by rw [htl])
end Go.PI
/- STRATA, of both. -/
open Go.Proofs
namespace Go.PI
open IM
set_option maxRecDepth 20000
set_option maxHeartbeats 4000000
variable (S : FuncId → Option (List AV → Heap → Option (AV × Heap)))
def OkO (xs : List Int) : Prop := ∀ x ∈ xs, 0 ≤ x ∧ x ≤ 20
open Classical in
noncomputable def stV (n : Int) (xs : List Int) : PV :=
  if 1 ≤ n ∧ n ≤ 20 then
    if OkO xs then
      if n < sm xs + (xs.length : Int) then .tup [.lst 0 [], pn 10]
      else if (sm xs).tmod 2 = 0 then .tup [pIs (dsc (tyL n xs)), pn 0] else .tup [.lst 0 [], pn 3]
    else .tup [.lst 0 [], pn 2]
  else .tup [.lst 0 [], pn 2]
theorem stV_n {n : Int} {xs : List Int} (h : ¬ (1 ≤ n ∧ n ≤ 20)) : stV n xs = .tup [.lst 0 [], pn 2] := by unfold stV; rw [if_neg h]
theorem stV_el {n : Int} {xs : List Int} (hn : 1 ≤ n ∧ n ≤ 20) (h : ¬ OkO xs) : stV n xs = .tup [.lst 0 [], pn 2] := by unfold stV; rw [if_pos hn, if_neg h]
theorem stV_big {n : Int} {xs : List Int} (hn : 1 ≤ n ∧ n ≤ 20) (h : OkO xs) (hb : n < sm xs + (xs.length : Int)) : stV n xs = .tup [.lst 0 [], pn 10] := by unfold stV; rw [if_pos hn, if_pos h, if_pos hb]
theorem stV_odd {n : Int} {xs : List Int} (hn : 1 ≤ n ∧ n ≤ 20) (h : OkO xs) (hb : sm xs + (xs.length : Int) ≤ n) (ho : (sm xs).tmod 2 ≠ 0) : stV n xs = .tup [.lst 0 [], pn 3] := by unfold stV; rw [if_pos hn, if_pos h, if_neg (by omega), if_neg ho]
theorem stV_ok {n : Int} {xs : List Int} (hn : 1 ≤ n ∧ n ≤ 20) (h : OkO xs) (hb : sm xs + (xs.length : Int) ≤ n) (ho : (sm xs).tmod 2 = 0) : stV n xs = .tup [pIs (dsc (tyL n xs)), pn 0] := by unfold stV; rw [if_pos hn, if_pos h, if_neg (by omega), if_pos ho]
theorem okO_next {xs : List Int} {i : Nat} {x : Int} (hx : xs[i]? = some x) (h : OkO (xs.take i)) (hb : 0 ≤ x ∧ x ≤ 20) : OkO (xs.take (i + 1)) := fun y hy => by
  rw [List.take_add_one, hx] at hy
  rcases List.mem_append.1 hy with hy | hy
  · exact h y hy
  · simp at hy; subst hy; exact hb
theorem okO_few {xs : List Int} (h : OkO xs) (hl : xs.length ≤ 1000) : Few xs := ⟨hl, fun x hx => by have := h x hx; omega⟩
theorem fn41 : ctx.fn 41 = some c41 := by kernel_rfl
theorem stratum_ct (hS : OldO S) (hs : S 112 = some sSort) {n : Int} {xs : List Int} (hl : xs.length ≤ 40) : Ct (ctx.plus S) 41 [pn n, pIs xs] 5000 fun r => r = stV n xs := by
  refine ct_of (hS 41 (by decide)) fn41 ?_
  refine callq rfl (within_ct S hS) (by omega) ?_
  rintro _ rfl
  by_cases hn : 1 ≤ n ∧ n ≤ 20
  rotate_left
  · rw [decide_eq_false hn]
    exact ⟨⟨[], (stV_n hn).symm⟩⟩
  rw [decide_eq_true hn]
  refine ⟨fun m s => ∃ (i : Nat) (T : List PV), s = ⟨T, [], 0⟩ ∧ Gt T 38 [(0, pn n), (1, pIs xs), (12, pIs xs), (13, pn xs.length), (14, pn i)] ∧ m = xs.length - i ∧ i ≤ xs.length ∧ Hid (OkO (xs.take i)), ⟨_, ci ⟨0, _, rfl, ⟨rfl, rfl, rfl, rfl, rfl, rfl, trivial⟩, rfl, Nat.zero_le _, ⟨fun x hx => by simp at hx⟩⟩⟩, ?_⟩
  rintro m s ⟨i, T, rfl, hT, hm, hi, hO⟩
  obtain ⟨J, rfl⟩ := gt_open hT
  clear hT
  refine ⟨fun hlt => ?_, fun hge => ?_⟩
  · obtain ⟨x, hx⟩ := xs_get (xs := xs) (i := i) (by omega)
    refine ⟨⟨⟨by omega, by omega⟩, len_map_le (by omega)⟩, ?_⟩
    refine ⟨_, ld (at_map hx) (by show _ * 1 = i; omega), ?_⟩
    refine callq rfl (within_ct S hS) (by omega) ?_
    rintro _ rfl
    by_cases hb : 0 ≤ x ∧ x ≤ 20
    · rw [decide_eq_true hb]
      refine ⟨⟨by omega, by omega⟩, ?_⟩
      exact ⟨_, by omega, ci ⟨i + 1, _, rfl, ⟨rfl, rfl, rfl, rfl, rfl, by show pn _ = pn _; norm_cast, trivial⟩, rfl, by omega, ⟨okO_next hx hO.h hb⟩⟩⟩
    · rw [decide_eq_false hb]
      exact ⟨⟨[], (stV_el hn fun h => hb (h x (List.mem_of_getElem? hx))).symm⟩⟩
  · have hii : i = xs.length := by omega
    subst hii
    have hO' := hO.h
    rw [List.take_of_length_le (Nat.le_refl _)] at hO'
    have hb0 := sm_bd (xs := xs) fun x hx => by have := hO' x hx; omega
    refine callq rfl (size'_ct S hS (okO_few hO' (by omega))) (by omega) ?_
    rintro _ rfl
    refine ⟨⟨by omega, by omega⟩, ?_⟩
    refine ⟨fun hgt => ?_, fun hle => ?_⟩
    · exact ⟨⟨[], (stV_big hn hO' (by omega)).symm⟩⟩
    · refine ⟨by decide, ?_⟩
      refine ⟨fun ho => ?_, fun he => ?_⟩
      · exact ⟨⟨[], (stV_odd hn hO' (by omega) ho).symm⟩⟩
      · refine callq rfl (typeOf_ct S hS hs ⟨hn, by omega, hO', by omega⟩) (by omega) ?_
        rintro _ rfl
        exact endsq rfl (stV_ok hn hO' (by omega) he).symm
theorem fn97 : ctx.fn 97 = some c97 := by kernel_rfl
theorem fn44 : ctx.fn 44 = some c44 := by kernel_rfl
theorem fn45 : ctx.fn 45 = some c45 := by kernel_rfl
theorem gen1_ct (hS : OldO S) {xs : List Int} (h : Few xs) : Ct (ctx.plus S) 97 [pIs xs] 0 fun r => r = pn (sm xs - xs.length) := by
  have := h.1
  have hb := sm_bd h.2
  refine ct_of (hS 97 (by decide)) fn97 ?_
  refine callq rfl (size'_ct S hS h) (by omega) ?_
  rintro _ rfl
  refine ⟨⟨by omega, by omega⟩, ?_⟩
  exact endq rfl rfl
theorem answerN_bad (hS : OldO S) {xs : List Int} {g : Nat} (hl : xs.length ≤ 1000000) (hb : ckV xs ≠ 0) : Ct (ctx.plus S) 96 [pIs xs, pn 20, .fn g] 0 fun r => r = .tup [pn 0, pn (ckV xs)] := by
  refine ct_of (hS 96 (by decide)) fn96 ?_
  refine callq rfl (ck_ct S hS hl) (by omega) ?_
  rintro _ rfl
  refine ⟨fun h => absurd h hb, fun _ => ?_⟩
  refine ⟨fun _ => ?_, fun h => absurd h hb⟩
  exact endsq rfl rfl
theorem answerN_ct (hS : OldO S) {xs : List Int} {g d : Nat} {v : PV} (hl : xs.length ≤ 1000000) (hb : ckV xs = 0) (hv : cloA v = true) (hg : Ct (ctx.plus S) g [pIs xs] d fun r => r = v) : Ct (ctx.plus S) 96 [pIs xs, pn 20, .fn g] d fun r => r = .tup [v, pn 0] := by
  refine ct_of (hS 96 (by decide)) fn96 ?_
  refine callq rfl (ck_ct S hS hl) (by omega) ?_
  rintro _ rfl
  rw [hb]
  refine ⟨fun _ => ?_, fun h => absurd rfl h⟩
  refine callq rfl (size'_ct S hS (ckV_bd hb)) (by omega) ?_
  rintro _ rfl
  have := (ckV_ok hb).2.2.1
  refine ⟨fun h => by omega, fun _ => ?_⟩
  refine ⟨fun h => absurd rfl h, fun _ => ?_⟩
  refine callq rfl hg (by omega) ?_
  rintro _ rfl
  exact endsq (by simp only [cloAs, hv, Bool.true_and]; rfl) rfl
open Classical in
noncomputable def genV (xs : List Int) : Int × Int := if (sm xs - xs.length).tmod 2 = 0 then (1 + (sm xs - xs.length).tdiv 2, 0) else (0, 3)
theorem half_bd {a : Int} (h : 0 ≤ a ∧ a ≤ 1000000) : In64 (a.tdiv 2) ∧ In64 (1 + a.tdiv 2) := by
  have : a.tdiv 2 = a / 2 := Int.tdiv_eq_ediv_of_nonneg h.1
  rw [this]
  unfold In64
  omega
theorem sm_ge {xs : List Int} (h : ∀ x ∈ xs, 1 ≤ x) : (xs.length : Int) ≤ sm xs := by
  induction xs with
  | nil => simp [sm]
  | cons x xs ih =>
    have h1 := h x List.mem_cons_self
    have h2 := ih fun y hy => h y (List.mem_cons_of_mem _ hy)
    simp only [sm, List.length_cons]
    omega
theorem genus_ct (hS : OldO S) {xs : List Int} (hl : xs.length ≤ 1000000) : Ct (ctx.plus S) 44 [pIs xs] 0 fun r => r = if ckV xs = 0 then .tup [pn (genV xs).1, pn (genV xs).2] else .tup [pn 0, pn (ckV xs)] := by
  refine ct_of (hS 44 (by decide)) fn44 ?_
  by_cases hb : ckV xs = 0
  · obtain ⟨k1, k2, k3, k4⟩ := ckV_ok hb
    have hge := sm_ge fun x hx => (k2 x hx).1
    rw [if_pos hb]
    refine callq rfl (answerN_ct S hS hl hb rfl (gen1_ct S hS (ckV_bd hb))) (by omega) ?_
    rintro _ rfl
    refine ⟨fun h => absurd rfl h, fun _ => ?_⟩
    refine ⟨by decide, ?_⟩
    refine ⟨fun ho => ?_, fun he => ?_⟩
    · exact endsq rfl (by unfold genV; rw [if_neg ho])
    · obtain ⟨h1, h2⟩ := half_bd (a := sm xs - xs.length) (by omega)
      refine ⟨⟨by decide, h1⟩, ?_⟩
      refine ⟨h2, ?_⟩
      exact endsq rfl (by unfold genV; rw [if_pos he])
  · rw [if_neg hb]
    refine callq rfl (answerN_bad S hS hl hb) (by omega) ?_
    rintro _ rfl
    refine ⟨fun _ => ?_, fun h => absurd h hb⟩
    exact endsq rfl rfl
theorem rgenus_ct (hS : OldO S) {xs : List Int} (hb : ckV xs = 0) : Ct (ctx.plus S) 45 [pIs xs] 0 fun r => r = .tup [pn (genV xs).1, pn (genV xs).2] := by
  obtain ⟨k1, k2, k3, k4⟩ := ckV_ok hb
  have hge := sm_ge fun x hx => (k2 x hx).1
  refine ct_of (hS 45 (by decide)) fn45 ?_
  refine callq rfl (rsize'_ct S hS (ckV_bd hb)) (by omega) ?_
  rintro _ rfl
  refine ⟨⟨by omega, by omega⟩, ?_⟩
  refine ⟨by decide, ?_⟩
  refine ⟨fun ho => ?_, fun he => ?_⟩
  · exact endsq rfl (by unfold genV; rw [if_neg ho])
  · obtain ⟨h1, h2⟩ := half_bd (a := sm xs - xs.length) (by omega)
    refine ⟨⟨by decide, h1⟩, ?_⟩
    refine ⟨h2, ?_⟩
    exact endsq rfl (by unfold genV; rw [if_pos he])
end Go.PI
/- STRATA, of the reference. -/
open Go.Proofs
namespace Go.PI
open IM
set_option maxRecDepth 20000
set_option maxHeartbeats 4000000
variable (S : FuncId → Option (List AV → Heap → Option (AV × Heap)))
theorem fn42 : ctx.fn 42 = some c42 := by kernel_rfl
theorem sm_rest {xs : List Int} (h : ∀ x ∈ xs, 0 ≤ x) (i : Nat) : sm (xs.take i) ≤ sm xs := by
  have h1 : sm xs = sm (xs.take i) + sm (xs.drop i) := by rw [← sm_app, List.take_append_drop]
  have h2 : ∀ ys : List Int, (∀ y ∈ ys, 0 ≤ y) → 0 ≤ sm ys := fun ys => by
    induction ys with
    | nil => intro _; exact Int.le_refl _
    | cons y ys ih =>
      intro hy
      have := ih fun z hz => hy z (List.mem_cons_of_mem _ hz)
      have := hy y List.mem_cons_self
      simp only [sm]
      omega
  have := h2 (xs.drop i) fun y hy => h y (List.mem_of_mem_drop hy)
  omega
theorem inc1_len (xs : List Int) : (inc1 xs).length = xs.length := by unfold inc1; simp
theorem rstratum_ct (hS : OldO S) {n : Int} {xs : List Int} (hl : xs.length ≤ 40) : Ct (ctx.plus S) 42 [pn n, pIs xs] 20000 fun r => r = stV n xs := by
  refine ct_of (hS 42 (by decide)) fn42 ?_
  refine callq rfl (rwithin_ct S hS) (by omega) ?_
  rintro _ rfl
  by_cases hn : 1 ≤ n ∧ n ≤ 20
  rotate_left
  · rw [decide_eq_false hn]
    exact ⟨⟨[], (stV_n hn).symm⟩⟩
  rw [decide_eq_true hn]
  -- the elements
  refine ⟨fun m s => ∃ (i : Nat) (T : List PV), s = ⟨T, [], 0⟩ ∧ Gt T 81 [(0, pn n), (1, pIs xs), (6, .nils), (7, pn n), (8, pn 0), (9, pn i)] ∧ m = xs.length - i ∧ i ≤ xs.length ∧ Hid (OkO (xs.take i)), ⟨_, ci ⟨0, _, rfl, ⟨rfl, rfl, rfl, rfl, rfl, rfl, rfl, trivial⟩, rfl, Nat.zero_le _, ⟨fun x hx => by simp at hx⟩⟩⟩, ?_⟩
  rintro m s ⟨i, T, rfl, hT, hm, hi, hO⟩
  obtain ⟨J, rfl⟩ := gt_open hT
  clear hT
  refine ⟨fun hlt => ?_, fun hge => ?_⟩
  · obtain ⟨x, hx⟩ := xs_get (xs := xs) (i := i) (by omega)
    refine ⟨⟨⟨by omega, by omega⟩, len_map_le (by omega)⟩, ?_⟩
    refine ⟨_, ld (at_map hx) (by show _ * 1 = i; omega), ?_⟩
    refine callq rfl (rwithin_ct S hS) (by omega) ?_
    rintro _ rfl
    by_cases hb : 0 ≤ x ∧ x ≤ 20
    · rw [decide_eq_true hb]
      refine ⟨⟨by omega, by omega⟩, ?_⟩
      exact ⟨_, by omega, ci ⟨i + 1, _, rfl, ⟨rfl, rfl, rfl, rfl, rfl, rfl, by show pn _ = pn _; norm_cast, trivial⟩, rfl, by omega, ⟨okO_next hx hO.h hb⟩⟩⟩
    · rw [decide_eq_false hb]
      exact ⟨⟨[], (stV_el hn fun h => hb (h x (List.mem_of_getElem? hx))).symm⟩⟩
  have hii : i = xs.length := by omega
  subst hii
  have hO' := hO.h
  rw [List.take_of_length_le (Nat.le_refl _)] at hO'
  have hfw := okO_few hO' (show xs.length ≤ 1000 by omega)
  have hb0 := sm_bd (xs := xs) fun x hx => by have := hO' x hx; omega
  clear hO hm
  -- what is left of n
  refine ⟨fun m s => ∃ (i b : Nat) (v : PV) (σ : List StB) (T : List PV), s = ⟨T, σ, b⟩ ∧ Gt T 81 [(0, pn n), (1, pIs xs), (6, v), (7, pn (n - sm (xs.take i) - i)), (8, pn 0), (10, pn i)] ∧ m = xs.length - i ∧ i ≤ xs.length ∧ b ≤ 2 * i ∧ Hid (Gl v σ (inc1 (xs.take i))), ⟨_, ci ⟨0, 0, .nils, _, _, rfl, ⟨rfl, rfl, rfl, rfl, by show pn _ = pn _; congr 1; show n = n - 0 - 0; omega, rfl, rfl, trivial⟩, rfl, Nat.zero_le _, Nat.le_refl _, ⟨.inl ⟨rfl, rfl⟩⟩⟩⟩, ?_⟩
  rintro m s ⟨i, b, v, σ, T, rfl, hT, hm, hi, hbk, hg⟩
  obtain ⟨J, rfl⟩ := gt_open hT
  clear hT
  have hsb := sm_bdt hfw i
  have hsr := sm_rest (fun x hx => (hO' x hx).1) i
  have neg : n - sm (xs.take i) - i < 0 → stV n xs = .tup [.lst 0 [], pn 10] := fun h => stV_big hn hO' (by omega)
  refine ⟨fun hlt => ?_, fun hge => ?_⟩
  · refine ⟨fun h0 => ?_, fun h0 => ?_⟩
    · obtain ⟨x, hx⟩ := xs_get (xs := xs) (i := i) (by omega)
      have hxb := hO' x (List.mem_of_getElem? hx)
      refine ⟨⟨⟨by omega, by omega⟩, len_map_le (by omega)⟩, ?_⟩
      refine ⟨_, ld (at_map hx) (by show _ * 1 = i; omega), ?_⟩
      refine ⟨⟨by omega, by omega⟩, ?_⟩
      refine ⟨by omega, part1 fzI ⟨[pn (x + 1)], rfl, ?_⟩⟩
      refine app1 S (x := x + 1) hg.h.push push_cont (by rw [inc1_len]; simp; omega) (by omega) fun v1 σ1 k1 hk1 hk1' hg1 => ?_
      refine ⟨⟨⟨by omega, by omega⟩, len_map_le (by omega)⟩, ?_⟩
      refine ⟨_, ld (at_map hx) (by show _ * 1 = i; omega), ?_⟩
      refine ⟨⟨by omega, by omega⟩, ?_⟩
      refine ⟨⟨by omega, by omega⟩, ?_⟩
      refine ⟨⟨by omega, by omega⟩, ?_⟩
      exact ⟨_, by omega, ci ⟨i + 1, k1, v1, σ1, _, rfl, ⟨rfl, rfl, rfl, rfl, by show pn _ = pn _; rw [sm_next hx]; congr 1; omega, rfl, by show pn _ = pn _; norm_cast, trivial⟩, rfl, by omega, by omega, ⟨by rw [inc1_next hx]; exact hg1⟩⟩⟩
    · refine ⟨fun _ => ?_, fun h => by omega⟩
      exact ⟨⟨[], (neg (by omega)).symm⟩⟩
  refine ⟨fun h0 => ⟨⟨[], (neg (by omega)).symm⟩⟩, fun h0 => ?_⟩
  have hii : i = xs.length := by omega
  subst hii
  have hg0 := hg.h
  rw [List.take_of_length_le (Nat.le_refl _)] at hg0 h0
  obtain ⟨q, hq⟩ : ∃ q : Nat, n - sm xs - xs.length = q := ⟨(n - sm xs - xs.length).toNat, by omega⟩
  clear neg hsr hsb hg hge hm
  -- the sum
  refine ⟨fun m s => ∃ (i : Nat) (T : List PV), s = ⟨T, σ, b⟩ ∧ Gt T 81 [(0, pn n), (1, pIs xs), (6, v), (7, pn q), (8, pn (sm (xs.take i))), (11, pn i)] ∧ m = xs.length - i ∧ i ≤ xs.length, ⟨_, ci ⟨0, _, rfl, ⟨rfl, rfl, rfl, rfl, by show pn _ = pn _; rw [List.take_of_length_le (Nat.le_refl _), hq], rfl, rfl, trivial⟩, rfl, Nat.zero_le _⟩⟩, ?_⟩
  rintro m s ⟨i, T, rfl, hT, hm, hi⟩
  obtain ⟨J, rfl⟩ := gt_open hT
  clear hT
  have hsb := sm_bdt hfw i
  refine ⟨fun hlt => ?_, fun hge => ?_⟩
  · obtain ⟨x, hx⟩ := xs_get (xs := xs) (i := i) (by omega)
    have hxb := hO' x (List.mem_of_getElem? hx)
    refine ⟨⟨⟨by omega, by omega⟩, len_map_le (by omega)⟩, ?_⟩
    refine ⟨_, ld (at_map hx) (by show _ * 1 = i; omega), ?_⟩
    refine ⟨⟨by omega, by omega⟩, ?_⟩
    refine ⟨⟨by omega, by omega⟩, ?_⟩
    exact ⟨_, by omega, ci ⟨i + 1, _, rfl, ⟨rfl, rfl, rfl, rfl, rfl, by show pn _ = pn _; rw [sm_next hx], by show pn _ = pn _; norm_cast, trivial⟩, rfl, by omega⟩⟩
  have hii : i = xs.length := by omega
  subst hii
  rw [List.take_of_length_le (Nat.le_refl _)]
  clear hsb hge hm
  refine ⟨by decide, ?_⟩
  refine ⟨fun ho => ⟨⟨[], (stV_odd hn hO' (by omega) ho).symm⟩⟩, fun he => ?_⟩
  -- ones
  refine ⟨fun m s => ∃ (i b : Nat) (v : PV) (σ : List StB) (T : List PV), s = ⟨T, σ, b⟩ ∧ Gt T 81 [(0, pn n), (1, pIs xs), (6, v), (7, pn q), (12, pn i)] ∧ m = q - i ∧ i ≤ q ∧ b ≤ 1000 + 2 * i ∧ Hid (Gl v σ (inc1 xs ++ List.replicate i 1)), ⟨_, ci ⟨0, b, v, σ, _, rfl, ⟨rfl, rfl, rfl, rfl, rfl, rfl, trivial⟩, rfl, Nat.zero_le _, by omega, ⟨by simpa using hg0⟩⟩⟩, ?_⟩
  rintro m s ⟨i, b2, v2, σ2, T, rfl, hT, hm, hi, hbk2, hg2⟩
  obtain ⟨J, rfl⟩ := gt_open hT
  clear hT
  have hil := inc1_len xs
  refine ⟨fun hlt => ?_, fun hge => ?_⟩
  · refine ⟨by omega, part1 fzI ⟨[pn 1], rfl, ?_⟩⟩
    refine app1 S (x := 1) hg2.h.push push_cont (by rw [List.length_append, List.length_replicate]; omega) (by omega) fun v1 σ1 k1 hk1 hk1' hg1 => ?_
    refine ⟨⟨by omega, by omega⟩, ?_⟩
    refine ⟨_, by omega, ci ⟨i + 1, k1, v1, σ1, _, rfl, ⟨rfl, rfl, rfl, rfl, rfl, by show pn _ = pn _; norm_cast, trivial⟩, rfl, by omega, by omega, ⟨?_⟩⟩⟩
    rw [List.append_assoc] at hg1
    rw [List.replicate_succ']
    exact hg1
  · have hiq : i = q := by omega
    subst hiq
    obtain ⟨σ4, hf⟩ := hg2.h.fz
    refine cal1 hf (falling_ct S hS (xs := inc1 xs ++ List.replicate i 1) (by rw [List.length_append, List.length_replicate]; omega)) (by omega) ?_
    rintro _ rfl
    refine endsq rfl ?_
    rw [stV_ok hn hO' (by omega) he]
    unfold tyL
    rw [show (n - sm xs - (xs.length : Int)).toNat = i by omega]
end Go.PI
