/- Own work of the verifier: OrPw OrSm OrLt. -/
import Derived.Test.YtoppgcfijjndfaaGreatDoorOtBB
import Derived.Test.YtoppgcfijjndfaaGreatDoorOtAZ
import Derived.Test.YtoppgcfijjndfaaGreatDoorOtBA
set_option linter.all false
set_option exponentiation.threshold 3000
set_option linter.deprecated false
/- STEPS ALONG CYCLES, and what the letters make of an origami: of the program. -/
open Go.Proofs
namespace Go.PI
open IM
set_option maxRecDepth 10000
set_option maxHeartbeats 4000000
variable (S : FuncId → Option (List AV → Heap → Option (AV × Heap)))
theorem fn159 : ctx.fn 159 = some c159 := by kernel_rfl
theorem oinverse_ct (hS : OldO S) {n : Nat} {f g : Nat → Nat} (h : IsP n f g) (hn : n ≤ 1000000) : Ct (ctx.plus S) 159 [pIs (PL n f)] 1 fun r => r = pIs (PL n g) := by
  obtain ⟨xs, hx⟩ : ∃ xs, xs = PL n f := ⟨_, rfl⟩
  have hl : xs.length = n := by rw [hx, PL_len]
  have hg : ∀ i, i < n → xs[i]? = some (f i : Int) := fun i hi => by rw [hx, PL_get hi]
  rw [← hx]
  clear hx
  refine ct_of (hS 159 (by decide)) fn159 ?_
  refine ⟨by omega, ⟨by omega, by omega, by omega⟩, _, int_zero, ?_⟩
  refine ⟨fun m s => ∃ (i : Nat) (ys : List Int) (T : List PV), s = ⟨T, [.live 3 (ys.map pn)], 1⟩ ∧ Gt T 22 [(3, .own 0 0 xs.length xs.length 1), (9, pIs xs), (10, pn xs.length), (11, pn i)] ∧ m = n - i ∧ i ≤ n ∧ Hid (ys.length = n ∧ ∀ j : Nat, j < i → ys[f j]? = some (j : Int)), ⟨_, ci ⟨0, _, _, rfl, ⟨rfl, rfl, rfl, rfl, rfl, trivial⟩, rfl, Nat.zero_le _, ⟨by simp [hl], fun j hj => by omega⟩⟩⟩, ?_⟩
  rintro _ s ⟨i, ys, T, rfl, hT, rfl, hi, hy⟩
  obtain ⟨J, rfl⟩ := gt_open hT
  clear hT
  refine ⟨fun hlt => ?_, fun hge => ?_⟩
  · have he := hg i (by omega)
    have hfi := h.lt i (by omega)
    have hyl := hy.h.1
    refine ⟨⟨⟨by omega, by omega⟩, len_map_le (by omega)⟩, ?_⟩
    refine ⟨_, ld (at_map he) (by show _ * 1 = i; omega), ?_⟩
    refine ⟨⟨by omega, by omega⟩, ?_⟩
    refine ⟨_, _, rfl, ⟨rfl, by rw [List.length_map]; show 0 + f i * 1 + 1 ≤ _; omega, rfl⟩, _, int_put (j := f i) (by show 0 + f i * 1 = f i; omega) (by omega), _, rfl, ?_⟩
    refine ⟨⟨by omega, by omega⟩, ?_⟩
    refine ⟨_, by omega, ci ⟨i + 1, _, _, rfl, ⟨rfl, rfl, rfl, rfl, rfl, trivial⟩, rfl, by omega, ⟨by simp [hyl], fun j hj => ?_⟩⟩⟩
    by_cases hji : j = i
    · subst hji
      rw [List.getElem?_set_self (by omega)]
    · rw [List.getElem?_set_ne (fun e => hji (h.inj (by omega) (by omega) e.symm))]
      exact hy.h.2 j (by omega)
  · refine endf (fz_ints (xs := ys) rfl (by rw [hy.h.1, hl])) ?_
    rw [PL_ext (f := g) hy.h.1 fun j hj => ?_]
    have := hy.h.2 (g j) (by have := h.glt j hj; omega)
    rwa [h.fg j hj] at this
theorem fn213 : ctx.fn 213 = some c213 := by kernel_rfl
theorem oproduct_ct (hS : OldO S) {n : Nat} {f g : Nat → Nat} (h : ∀ i, i < n → f i < n) (hn : n ≤ 1000000) : Ct (ctx.plus S) 213 [pIs (PL n f), pIs (PL n g)] 1 fun r => r = pIs (PL n fun i => g (f i)) := by
  obtain ⟨xs, hx⟩ : ∃ xs, xs = PL n f := ⟨_, rfl⟩
  have hl : xs.length = n := by rw [hx, PL_len]
  have hg : ∀ i, i < n → xs[i]? = some (f i : Int) := fun i hi => by rw [hx, PL_get hi]
  rw [← hx]
  clear hx
  obtain ⟨zs, hx⟩ : ∃ zs, zs = PL n g := ⟨_, rfl⟩
  have hzl : zs.length = n := by rw [hx, PL_len]
  have hzg : ∀ i, i < n → zs[i]? = some (g i : Int) := fun i hi => by rw [hx, PL_get hi]
  rw [← hx]
  clear hx
  refine ct_of (hS 213 (by decide)) fn213 ?_
  refine ⟨by omega, ⟨by omega, by omega, by omega⟩, _, int_zero, ?_⟩
  refine ⟨fun m s => ∃ (i : Nat) (ys : List Int) (T : List PV), s = ⟨T, [.live 3 (ys.map pn)], 1⟩ ∧ Gt T 27 [(1, pIs zs), (5, .own 0 0 xs.length xs.length 1), (11, pIs xs), (12, pn xs.length), (13, pn i)] ∧ m = n - i ∧ i ≤ n ∧ Hid (ys.length = n ∧ ∀ j : Nat, j < i → ys[j]? = some (g (f j) : Int)), ⟨_, ci ⟨0, _, _, rfl, ⟨rfl, rfl, rfl, rfl, rfl, rfl, trivial⟩, rfl, Nat.zero_le _, ⟨by simp [hl], fun j hj => by omega⟩⟩⟩, ?_⟩
  rintro _ s ⟨i, ys, T, rfl, hT, rfl, hi, hy⟩
  obtain ⟨J, rfl⟩ := gt_open hT
  clear hT
  refine ⟨fun hlt => ?_, fun hge => ?_⟩
  · have he := hg i (by omega)
    have hfi := h i (by omega)
    have hz := hzg (f i) hfi
    have hyl := hy.h.1
    refine ⟨⟨⟨by omega, by omega⟩, len_map_le (by omega)⟩, ?_⟩
    refine ⟨_, ld (at_map he) (by show _ * 1 = i; omega), ?_⟩
    refine ⟨⟨⟨by omega, by omega⟩, len_map_le (by omega)⟩, ?_⟩
    refine ⟨_, ld (at_map hz) (by show _ * 1 = f i; omega), ?_⟩
    refine ⟨⟨by omega, by omega⟩, ?_⟩
    refine ⟨_, _, rfl, ⟨rfl, by rw [List.length_map]; show 0 + i * 1 + 1 ≤ _; omega, rfl⟩, _, int_put (j := i) (by show 0 + i * 1 = i; omega) (by omega), _, rfl, ?_⟩
    refine ⟨⟨by omega, by omega⟩, ?_⟩
    refine ⟨_, by omega, ci ⟨i + 1, _, _, rfl, ⟨rfl, rfl, rfl, rfl, rfl, rfl, trivial⟩, rfl, by omega, ⟨by simp [hyl], fun j hj => ?_⟩⟩⟩
    by_cases hji : j = i
    · subst hji
      rw [List.getElem?_set_self (by omega)]
    · rw [List.getElem?_set_ne (Ne.symm hji)]
      exact hy.h.2 j (by omega)
  · refine endf (fz_ints (xs := ys) rfl (by rw [hy.h.1, hl])) ?_
    rw [PL_ext (f := fun i => g (f i)) hy.h.1 fun j hj => hy.h.2 j (by omega)]
theorem chkP_PL {n : Nat} {f g : Nat → Nat} (h : IsP n f g) : chkP (PL n f) = 0 := by
  refine chk0 (inR_PL h) ?_
  unfold PL List.Nodup
  rw [List.pairwise_map]
  refine List.Pairwise.imp_of_mem (R := fun a b => a < b) (fun {a b} ha hb hlt e => ?_) List.pairwise_lt_range
  have := h.inj (List.mem_range.1 ha) (List.mem_range.1 hb) (by omega)
  omega
theorem fn243 : ctx.fn 243 = some c243 := by kernel_rfl
theorem cyclesP_ct (hS : OldO S) {n : Nat} {f g : Nat → Nat} (h : IsP n f g) (hn : n ≤ 60) : Ct (ctx.plus S) 243 [pIs (PL n f)] 10000 fun v => v = .tup [pM (cycs n f), pn 0] := by
  have hl : (PL n f).length = n := PL_len
  refine ct_of (hS 243 (by decide)) fn243 ?_
  refine ⟨fun h => absurd h (by omega), fun _ => ?_⟩
  refine callq rfl (checkP_ct S hS (by omega)) (by omega) ?_
  rintro _ rfl
  rw [chkP_PL h]
  refine ⟨fun h => absurd rfl h, fun _ => ?_⟩
  have hm : 1 + n * (2 * n + 2) ≤ 7400 := by
    have := Nat.mul_le_mul (show n ≤ 60 by omega) (show 2 * n + 2 ≤ 122 by omega)
    omega
  refine callq rfl ((cycles_ct S hS h (by omega)).mono hm fun _ h => h) (by omega) ?_
  rintro _ rfl
  exact endsq rfl rfl
theorem tm_bd {a m : Int} (h : 0 < m) : -m < a.tmod m ∧ a.tmod m < m := by
  have h1 : (a.tmod m).natAbs = a.natAbs % m.natAbs := Int.natAbs_tmod a m
  have h2 := Nat.mod_lt a.natAbs (show m.natAbs > 0 by omega)
  omega
theorem fn214 : ctx.fn 214 = some c214 := by kernel_rfl
theorem power_ct (hS : OldO S) {n : Nat} {f f' : Nat → Nat} {k : Int} (h : IsP n f f') (hn : n ≤ 60) (hk : k = 1 ∨ k = -1) : Ct (ctx.plus S) 214 [pIs (PL n f), pn k] 10001 fun r => r = pIs (PL n (stp f f' k)) := by
  have hl : (PL n f).length = n := PL_len
  have hcl : (cycs n f).length ≤ n := cycs_len (Nat.le_refl n)
  refine ct_of (hS 214 (by decide)) fn214 ?_
  refine ⟨by omega, ⟨by omega, by omega, by omega⟩, _, int_zero, ?_⟩
  rw [hl]
  refine callq rfl (cyclesP_ct S hS h hn) (by omega) ?_
  rintro _ rfl
  refine ⟨fun m s => ∃ (i : Nat) (ys : List Int) (T : List PV), s = ⟨T, [.live 3 (ys.map pn)], 10001⟩ ∧ Gt T 54 [(1, pn k), (5, .own 0 0 n n 1), (21, pM (cycs n f)), (22, pn (cycs n f).length), (23, pn i)] ∧ m = (cycs n f).length - i ∧ i ≤ (cycs n f).length ∧ Hid (PT n (stp f f' k) (InCy n f i) ys), ⟨_, ci ⟨0, _, _, rfl, ⟨rfl, rfl, rfl, rfl, rfl, rfl, trivial⟩, rfl, Nat.zero_le _, ⟨by simp, fun y _ hy => by obtain ⟨c, hc, -⟩ := hy; simp at hc⟩⟩⟩, ?_⟩
  rintro _ st ⟨i, ys, T, rfl, hT, rfl, hi, hh⟩
  obtain ⟨J, rfl⟩ := gt_open hT
  clear hT
  refine ⟨fun hlt => ?_, fun hge => ?_⟩
  · obtain ⟨c, hc⟩ : ∃ c, (cycs n f)[i]? = some c := ⟨_, List.getElem?_eq_getElem (by omega)⟩
    obtain ⟨x, hx, -, rfl⟩ := cycs_memP.1 (List.mem_of_getElem? hc)
    obtain ⟨o1, o2, o3, o4⟩ := ordr_spec h hx
    have hcn : (cyc f x).length = ordr f x := cyc_len
    refine ⟨⟨⟨by omega, by omega⟩, len_map_le (by omega)⟩, ?_⟩
    refine ⟨_, ld (at_map hc) (by show _ * 1 = i; omega), ?_⟩
    refine ⟨fun m s => ∃ (q : Nat) (ys : List Int) (T : List PV), s = ⟨T, [.live 3 (ys.map pn)], 10001⟩ ∧ Gt T 54 [(1, pn k), (5, .own 0 0 n n 1), (9, pIs (cyc f x)), (10, pn (cyc f x).length), (21, pM (cycs n f)), (22, pn (cycs n f).length), (23, pn i), (29, pIs (cyc f x)), (30, pn (cyc f x).length), (31, pn q)] ∧ m = ordr f x - q ∧ q ≤ ordr f x ∧ Hid (PT n (stp f f' k) (fun y => InCy n f i y ∨ ∃ j, j < q ∧ it f j x = y) ys), ⟨_, ci ⟨0, _, _, rfl, ⟨rfl, rfl, rfl, rfl, rfl, rfl, rfl, rfl, rfl, rfl, rfl, trivial⟩, rfl, Nat.zero_le _, ⟨pt_mono hh.h fun z _ hz => by rcases hz with hz | ⟨j, hj, -⟩; exact hz; omega⟩⟩⟩, ?_⟩
    clear hh ys
    rintro _ st ⟨q, ys, T, rfl, hT, rfl, hq, hh⟩
    obtain ⟨J, rfl⟩ := gt_open hT
    clear hT
    refine ⟨fun hlt2 => ?_, fun hge2 => ?_⟩
    · have hq2 : q < ordr f x := by omega
      have hit := it_lt h hx q
      obtain ⟨p1, p2, p3⟩ := plc_at h hx hq2 hk
      have hcq : (cyc f x)[q]? = some ((it f q x : Nat) : Int) := cyc_at hq2
      rw [← hcn] at p1 p2 p3
      have hk6 : -1 ≤ k ∧ k ≤ 1 := by omega
      have hm0 : (0 : Int) < ((cyc f x).length : Nat) := by omega
      have b1 := tm_bd (a := (q : Int) + k) hm0
      refine ⟨⟨⟨by omega, by omega⟩, len_map_le (by omega)⟩, ?_⟩
      refine ⟨_, ld (at_map hcq) (by show _ * 1 = q; omega), ?_⟩
      refine ⟨⟨by omega, by omega⟩, ?_⟩
      refine ⟨by omega, ?_⟩
      refine ⟨⟨by omega, by omega⟩, ?_⟩
      refine ⟨by omega, ?_⟩
      refine ⟨⟨⟨p1, p2⟩, len_map_le (by show (plc _ _ _).toNat ≤ _; omega)⟩, ?_⟩
      refine ⟨_, ld (at_map p3) (by show (plc _ _ _).toNat * 1 = _; omega), ?_⟩
      refine ⟨⟨by omega, by omega⟩, ?_⟩
      have hyl := hh.h.1
      refine ⟨_, _, rfl, ⟨rfl, by rw [List.length_map]; show 0 + it f q x * 1 + 1 ≤ _; omega, rfl⟩, _, int_put (j := it f q x) (by show 0 + it f q x * 1 = it f q x; omega) (by omega), _, rfl, ?_⟩
      refine ⟨⟨by omega, by omega⟩, ?_⟩
      exact ⟨_, by omega, ci ⟨q + 1, _, _, rfl, ⟨rfl, rfl, rfl, rfl, rfl, rfl, rfl, rfl, rfl, rfl, rfl, trivial⟩, rfl, by omega, ⟨pt_set hh.h hit fun z hz => by
        rcases hz with hz | ⟨j, hj, rfl⟩
        · exact .inl (.inl hz)
        · by_cases e : j = q
          · subst e; exact .inr rfl
          · exact .inl (.inr ⟨j, by omega, rfl⟩)⟩⟩⟩
    · have hqn : q = ordr f x := by omega
      refine ⟨⟨by omega, by omega⟩, ?_⟩
      exact ⟨_, by omega, ci ⟨i + 1, _, _, rfl, ⟨rfl, rfl, rfl, rfl, rfl, rfl, trivial⟩, rfl, by omega, ⟨pt_mono hh.h fun z hz hy => by
        obtain ⟨c, hcm, hzc⟩ := hy
        rw [List.take_add_one, hc] at hcm
        rcases List.mem_append.1 hcm with hcm | hcm
        · exact .inl ⟨c, hcm, hzc⟩
        · have hcm : c = cyc f x := by simpa using hcm
          subst hcm
          obtain ⟨j, hj⟩ := List.getElem?_of_mem hzc
          have hjl := (List.getElem?_eq_some_iff.1 hj).1
          rw [cyc_at (by omega)] at hj
          exact .inr ⟨j, by omega, by have := Option.some.inj hj; omega⟩⟩⟩⟩
  · have e := pt_done hh.h fun z hz => by
      obtain ⟨c, hc, hz2⟩ := cycs_all h hz
      exact (⟨c, by rw [List.take_of_length_le (by omega)]; exact hc, hz2⟩ : InCy n f i z)
    exact endf (fz_ints (xs := ys) rfl hh.h.1) (by rw [e])
end Go.PI
/- SMALL FUNCTIONS: copies, equal origamis, the zero value. -/
open Go.Proofs
namespace Go.PI
open IM
set_option maxRecDepth 10000
set_option maxHeartbeats 4000000
variable (S : FuncId → Option (List AV → Heap → Option (AV × Heap)))
theorem fn128 : ctx.fn 128 = some c128 := by kernel_rfl
theorem clone_cm (hS : OldO S) {xs : List Int} {σ : List StB} (hl : xs.length ≤ 1000000) (h0 : xs ≠ []) : Cm (ctx.plus S) 128 [pIs xs] σ 3 fun r σ' => Wrt σ σ' r xs := by
  have hne : xs.length ≠ 0 := fun h => h0 (List.eq_nil_of_length_eq_zero h)
  refine cm_of Opn.no (hS 128 (by decide)) fn128 fun c k0 hc => ?_
  refine ⟨hne, ?_⟩
  refine ⟨by omega, part0 ⟨[], rfl, ?_⟩⟩
  have hpn : pones (xs.map pn) = true := pones_pn _
  refine ⟨⟨by rw [List.length_map]; show _ = _ * 1; omega, ⟨by show xs.length ≤ 2 ^ 30; omega, hpn⟩, by decide, fun h => absurd h (by omega), fun h => ⟨by omega, 3, [], _, push_cont, by decide, rfl, ?_⟩⟩⟩
  refine endm [] (by dsimp only; omega) ?_
  exact ⟨σ.length + 1, .inr (by rw [List.length_append, Nat.zero_add]; rfl), push_at (by simp), Nat.le_succ _, fun i b hb => by
      rw [List.getElem?_append_left (by simp; have := (List.getElem?_eq_some_iff.1 hb).1; omega), List.getElem?_append_left (List.getElem?_eq_some_iff.1 hb).1]
      exact hb⟩
theorem clone_ct (hS : OldO S) {xs : List Int} (hl : xs.length ≤ 1000000) (h0 : xs ≠ []) : Ct (ctx.plus S) 128 [pIs xs] 3 fun r => r = pIs xs := (clone_cm S hS hl h0).ct fun _ _ h => h.fz
theorem load_cc {C : Ctx} {σ : List StB} {j o : Nat} {t t' : TypeId} {i : TI} {cs : List PV} {v : PV} (hc : contOf σ j = some (t', cs)) (hi : C.ty t = some i) (hv : partP i cs o = some v) : ploadE C σ t (.optr j o) = some v := by
  unfold ploadE
  rw [hi]
  simp only [hc]
  exact hv
theorem PL_ne {n : Nat} {f : Nat → Nat} (h : 0 < n) : PL n f ≠ [] := fun e => by
  have := PL_len (n := n) (f := f)
  rw [e] at this
  simp at this
  omega
theorem fn31 : ctx.fn 31 = some c31 := by kernel_rfl
theorem sameO_ct (hS : OldO S) {t b t' b' : List Int} (l1 : t.length ≤ 1000000) (l2 : b.length ≤ 1000000) (l3 : t'.length ≤ 1000000) (l4 : b'.length ≤ 1000000) :
    Ct (ctx.plus S) 31 [pO t b, pO t' b'] 2 fun r => r = .bool (decide (t = t' ∧ b = b')) := by
  refine ct_of (hS 31 (by decide)) fn31 ?_
  refine ⟨by omega, by omega, ?_⟩
  refine ⟨_, rfl, ?_⟩
  refine ⟨_, rfl, ?_⟩
  refine callq rfl (ints_ct S hS l1 l3) (by omega) ?_
  rintro _ rfl
  by_cases h1 : t = t'
  · rw [decide_eq_true h1]
    refine ⟨_, rfl, ?_⟩
    refine ⟨_, rfl, ?_⟩
    refine callq rfl (ints_ct S hS l2 l4) (by omega) ?_
    rintro _ rfl
    exact endq rfl (by simp [h1])
  · rw [decide_eq_false h1]
    exact endq rfl (by simp [h1])
theorem fn30 : ctx.fn 30 = some c30 := by kernel_rfl
theorem nothing_ct (hS : OldO S) : Ct (ctx.plus S) 30 [pO [] []] 1 fun r => r = .bool true := by
  refine ct_of (hS 30 (by decide)) fn30 ?_
  refine ⟨by omega, ?_⟩
  refine ⟨_, rfl, ?_⟩
  refine ⟨fun _ => ?_, fun h => absurd rfl h⟩
  refine ⟨_, rfl, ?_⟩
  refine ⟨fun _ => ?_, fun h => absurd rfl h⟩
  exact endq rfl rfl
end Go.PI
/- WHAT THE LETTERS MAKE of an origami: of the program. -/
open Go.Proofs
namespace Go.PI
open IM
set_option maxRecDepth 10000
set_option maxHeartbeats 4000000
variable (S : FuncId → Option (List AV → Heap → Option (AV × Heap)))
/-- an origami as the program keeps it -/
def p4 (n : Nat) (o : O4) : PV := pO (PL n o.f) (PL n o.g)
theorem fn177 : ctx.fn 177 = some c177 := by kernel_rfl
theorem lS_ct (hS : OldO S) {n : Nat} {o : O4} (hn : n ≤ 60) (h : o.Ok n) : Ct (ctx.plus S) 177 [p4 n o] 20000 fun v => v = p4 n o.S := by
  refine ct_of (hS 177 (by decide)) fn177 ?_
  refine ⟨by omega, by omega, ?_⟩
  refine ⟨by kernel_rfl, ?_⟩
  refine ⟨_, rfl, rfl, ?_⟩
  refine callq rfl (oinverse_ct S hS h.pu (by omega)) (by omega) ?_
  rintro _ rfl
  refine ⟨_, rfl, rfl, ?_⟩
  refine partc rfl ⟨_, rfl, ?_⟩
  refine ⟨_, _, rfl, ⟨rfl, Nat.le_refl 2, rfl⟩, _, rfl, _, rfl, ?_⟩
  exact ⟨_, rfl, endq rfl rfl⟩
theorem fn180 : ctx.fn 180 = some c180 := by kernel_rfl
theorem ls_ct (hS : OldO S) {n : Nat} {o : O4} (hn : n ≤ 60) (h : o.Ok n) : Ct (ctx.plus S) 180 [p4 n o] 20000 fun v => v = p4 n o.s := by
  refine ct_of (hS 180 (by decide)) fn180 ?_
  refine ⟨by omega, by omega, ?_⟩
  refine ⟨by kernel_rfl, ?_⟩
  refine ⟨_, rfl, rfl, ?_⟩
  refine ⟨_, rfl, rfl, ?_⟩
  refine callq rfl (oinverse_ct S hS h.pr (by omega)) (by omega) ?_
  rintro _ rfl
  refine partc rfl ⟨_, rfl, ?_⟩
  refine ⟨_, _, rfl, ⟨rfl, Nat.le_refl 2, rfl⟩, _, rfl, _, rfl, ?_⟩
  exact ⟨_, rfl, endq rfl rfl⟩
theorem fn179 : ctx.fn 179 = some c179 := by kernel_rfl
theorem osheared_ct (hS : OldO S) {n : Nat} {o : O4} {k : Int} (hn : n ≤ 60) (h : o.Ok n) (hk : k = 1 ∨ k = -1) : Ct (ctx.plus S) 179 [p4 n o, pn k] 10010 fun v => v = pO (PL n o.f) (PL n fun i => stp o.f o.f' (-k) (o.g i)) := by
  refine ct_of (hS 179 (by decide)) fn179 ?_
  refine ⟨by omega, by omega, ?_⟩
  refine ⟨by kernel_rfl, ?_⟩
  refine ⟨_, rfl, rfl, ?_⟩
  refine ⟨_, rfl, rfl, ?_⟩
  refine ⟨_, rfl, rfl, ?_⟩
  refine ⟨⟨by omega, by omega⟩, ?_⟩
  refine callq rfl (power_ct S hS (k := 0 - k) h.pr hn (by omega)) (by omega) ?_
  rintro _ rfl
  have hst := (stp_perm h.pr (k := 0 - k)).lt
  refine callq rfl (oproduct_ct S hS (f := o.g) (g := stp o.f o.f' (0 - k)) h.pu.lt (by omega)) (by omega) ?_
  rintro _ rfl
  refine partc rfl ⟨_, rfl, ?_⟩
  refine ⟨_, _, rfl, ⟨rfl, Nat.le_refl 2, rfl⟩, _, rfl, _, rfl, ?_⟩
  refine ⟨_, rfl, endq rfl ?_⟩
  rw [Int.zero_sub]
  rfl
theorem fn178 : ctx.fn 178 = some c178 := by kernel_rfl
theorem lT_ct (hS : OldO S) {n : Nat} {o : O4} (hn : n ≤ 60) (h : o.Ok n) : Ct (ctx.plus S) 178 [p4 n o] 20000 fun v => v = p4 n o.T := by
  refine ct_of (hS 178 (by decide)) fn178 ?_
  refine ⟨by omega, by omega, ?_⟩
  refine ⟨_, rfl, ?_⟩
  refine callq rfl (osheared_ct S hS (k := 1) hn h (.inl rfl)) (by omega) ?_
  rintro _ rfl
  refine ⟨_, _, rfl, ⟨rfl, Nat.le_refl 2, rfl⟩, _, rfl, _, rfl, ?_⟩
  exact ⟨_, rfl, endq rfl rfl⟩
theorem fn181 : ctx.fn 181 = some c181 := by kernel_rfl
theorem lt_ct (hS : OldO S) {n : Nat} {o : O4} (hn : n ≤ 60) (h : o.Ok n) : Ct (ctx.plus S) 181 [p4 n o] 20000 fun v => v = p4 n o.t := by
  refine ct_of (hS 181 (by decide)) fn181 ?_
  refine ⟨by omega, by omega, ?_⟩
  refine ⟨_, rfl, ?_⟩
  refine callq rfl (osheared_ct S hS (k := -1) hn h (.inr rfl)) (by omega) ?_
  rintro _ rfl
  refine ⟨_, _, rfl, ⟨rfl, Nat.le_refl 2, rfl⟩, _, rfl, _, rfl, ?_⟩
  exact ⟨_, rfl, endq rfl rfl⟩
/-- the letters and what they make, as the program lists them -/
def pb (n : Nat) : PV := .int .u8 n
def stepsP : List PV := [pb 83, .fn 177, pb 84, .fn 178, pb 115, .fn 180, pb 116, .fn 181]
theorem fn130 : ctx.fn 130 = some c130 := by kernel_rfl
theorem forward_ct (hS : OldO S) : Ct (ctx.plus S) 130 [] 2 fun v => v = .lst 2 [pb 83, .fn 177, pb 84, .fn 178] := by
  refine ct_of (hS 130 (by decide)) fn130 ?_
  refine partc rfl ⟨_, rfl, ?_⟩
  refine partc rfl ⟨_, rfl, ?_⟩
  refine ⟨by omega, partc rfl ⟨_, rfl, ?_⟩⟩
  exact endf (fz_own (cs' := [pb 83, .fn 177, pb 84, .fn 178]) rfl (Nat.le_refl 4) (Nat.le_refl 2) rfl) rfl
theorem fn131 : ctx.fn 131 = some c131 := by kernel_rfl
theorem back_ct (hS : OldO S) : Ct (ctx.plus S) 131 [] 2 fun v => v = .lst 2 [pb 115, .fn 180, pb 116, .fn 181] := by
  refine ct_of (hS 131 (by decide)) fn131 ?_
  refine partc rfl ⟨_, rfl, ?_⟩
  refine partc rfl ⟨_, rfl, ?_⟩
  refine ⟨by omega, partc rfl ⟨_, rfl, ?_⟩⟩
  exact endf (fz_own (cs' := [pb 115, .fn 180, pb 116, .fn 181]) rfl (Nat.le_refl 4) (Nat.le_refl 2) rfl) rfl
theorem fn176 : ctx.fn 176 = some c176 := by kernel_rfl
theorem grow_cm (hS : OldO S) {σ : List StB} : Cm (ctx.plus S) 176 [.nils, pn 4] σ 2 fun r σ' => r = .ownu σ.length 0 2 ∧ ∃ cs, σ' = σ ++ [.live 164 cs] := by
  refine cm_of Opn.no (hS 176 (by decide)) fn176 fun c k0 hc => ?_
  refine ⟨fun h => absurd h (by omega), fun _ => ?_⟩
  refine ⟨⟨by omega, by omega⟩, ?_⟩
  refine ⟨⟨by omega, by omega⟩, ?_⟩
  refine ⟨fun _ => ?_, fun h => absurd h (by omega)⟩
  refine ⟨⟨by omega, by omega⟩, ?_⟩
  refine ⟨⟨⟨by omega, by omega⟩, by decide, by decide, rfl, by omega⟩, _, rfl, ?_⟩
  refine ⟨⟨by omega, by omega⟩, ?_⟩
  exact endm [] (by dsimp only; omega) ⟨rfl, _, rfl⟩
theorem push_get' {σ : List StB} {b : StB} {j : Nat} (h : j = σ.length) : (σ ++ [b])[j]? = some b := by subst h; simp
theorem fn129 : ctx.fn 129 = some c129 := by kernel_rfl
theorem concat_ct (hS : OldO S) : Ct (ctx.plus S) 129 [.lst 2 [.lst 2 [pb 83, .fn 177, pb 84, .fn 178], .lst 2 [pb 115, .fn 180, pb 116, .fn 181]]] 10 fun v => v = .lst 4 stepsP := by
  refine ct_of (hS 129 (by decide)) fn129 ?_
  refine ⟨fun m s => ∃ (i : Nat) (T : List PV), s = ⟨T, [], 0⟩ ∧ Gt T 36 [(0, .lst 2 [.lst 2 [pb 83, .fn 177, pb 84, .fn 178], .lst 2 [pb 115, .fn 180, pb 116, .fn 181]]), (3, pn (2 * i : Nat)), (9, .lst 2 [.lst 2 [pb 83, .fn 177, pb 84, .fn 178], .lst 2 [pb 115, .fn 180, pb 116, .fn 181]]), (10, pn 2), (11, pn i)] ∧ m = 2 - i ∧ i ≤ 2, ⟨_, ci ⟨0, _, rfl, ⟨rfl, rfl, rfl, rfl, rfl, rfl, trivial⟩, rfl, by omega⟩⟩, ?_⟩
  rintro _ st ⟨i, T, rfl, hT, rfl, hi⟩
  obtain ⟨J, rfl⟩ := gt_open hT
  clear hT
  refine ⟨fun hlt => ?_, fun hge => ?_⟩
  · refine ⟨⟨⟨by omega, by omega⟩, by show _ * 1 ≤ 2; omega⟩, ?_⟩
    have h2 : i = 0 ∨ i = 1 := by omega
    rcases h2 with rfl | rfl
    all_goals
      refine ⟨_, rfl, ?_⟩
      refine ⟨⟨by omega, by omega⟩, ?_⟩
      refine ⟨fun h => absurd h (by omega), fun _ => ?_⟩
      refine ⟨⟨by omega, by omega⟩, ?_⟩
    · exact ⟨_, by omega, ci ⟨1, _, rfl, ⟨rfl, rfl, rfl, rfl, rfl, rfl, trivial⟩, rfl, by omega⟩⟩
    · exact ⟨_, by omega, ci ⟨2, _, rfl, ⟨rfl, rfl, rfl, rfl, rfl, rfl, trivial⟩, rfl, by omega⟩⟩
  · have : i = 2 := by omega
    subst this
    refine callm (grow_cm S hS) (by omega) ?_
    rintro _ _ ⟨rfl, cs, rfl⟩
    refine ⟨fun m s => ∃ (i b : Nat) (v : PV) (σ : List StB) (T : List PV), s = ⟨T, σ, b⟩ ∧ Gt T 36 [(6, v), (25, .lst 2 [.lst 2 [pb 83, .fn 177, pb 84, .fn 178], .lst 2 [pb 115, .fn 180, pb 116, .fn 181]]), (26, pn 2), (27, pn i)] ∧ m = 2 - i ∧ i ≤ 2 ∧ b ≤ 2 + i ∧ Hid (∃ j, v = .ownu j (2 * i) 2 ∧ ∃ cs, σ[j]? = some (.live 164 cs) ∧ cs.take (2 * i * 2) = stepsP.take (2 * i * 2)), ⟨_, ci ⟨0, _, _, _, _, rfl, ⟨rfl, rfl, rfl, rfl, rfl, trivial⟩, rfl, by omega, by omega, ⟨0, rfl, cs, rfl, rfl⟩⟩⟩, ?_⟩
    rintro _ st ⟨i, b, v, σ, T, rfl, hT, rfl, hi, hb, ⟨j, rfl, cs, hcs, hpre⟩⟩
    obtain ⟨J, rfl⟩ := gt_open hT
    clear hT
    refine ⟨fun hlt => ?_, fun hge => ?_⟩
    · refine ⟨⟨⟨by omega, by omega⟩, by show _ * 1 ≤ 2; omega⟩, ?_⟩
      have h2 : i = 0 ∨ i = 1 := by omega
      have hcl : 2 * i * 2 ≤ cs.length := by
        have := congrArg List.length hpre
        simp only [List.length_take] at this
        have h8 : stepsP.length = 8 := rfl
        omega
      rcases h2 with rfl | rfl
      · refine ⟨_, rfl, ?_⟩
        refine ⟨rfl, ⟨by omega, rfl⟩, ⟨by omega, rfl, by omega⟩, cs, _, hcs, hcl, rfl, ?_⟩
        refine ⟨⟨by omega, by omega⟩, ?_⟩
        exact ⟨_, by omega, ci ⟨1, _, _, _, _, rfl, ⟨rfl, rfl, rfl, rfl, rfl, trivial⟩, rfl, by omega, by omega, ⟨_, rfl, _, push_get' (by simp), by
          rw [show 2 * 0 * t164.size = 0 from rfl, List.take_zero]
          rfl⟩⟩⟩
      · refine ⟨_, rfl, ?_⟩
        refine ⟨rfl, ⟨by omega, rfl⟩, ⟨by omega, rfl, by omega⟩, cs, _, hcs, hcl, rfl, ?_⟩
        refine ⟨⟨by omega, by omega⟩, ?_⟩
        exact ⟨_, by omega, ci ⟨2, _, _, _, _, rfl, ⟨rfl, rfl, rfl, rfl, rfl, trivial⟩, rfl, by omega, by omega, ⟨_, rfl, _, push_get' (by simp), by
          rw [show 2 * 1 * t164.size = 2 * 1 * 2 from rfl, hpre]
          rfl⟩⟩⟩
    · have h2 : i = 2 := by omega
      subst h2
      have hcl : 8 ≤ cs.length := by
        have := congrArg List.length hpre
        simp only [List.length_take] at this
        have h8 : stepsP.length = 8 := rfl
        omega
      refine endf (σ1 := σ.set j (.frz 164 cs)) (p := .lst 4 stepsP) (fun K hK => ⟨164, cs, stepsP, contOf_live hcs, ⟨hcl, fun h => absurd h (by decide)⟩, hpre, hK⟩) rfl
end Go.PI
