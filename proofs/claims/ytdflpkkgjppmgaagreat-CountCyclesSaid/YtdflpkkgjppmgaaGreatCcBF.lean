/- Own work of the verifier: CoW CoX CoT CoY CoZ CpA CpB CyA CoH CqA. -/
import Derived.Test.YtdflpkkgjppmgaaGreatCcBE
import Derived.Test.YtdflpkkgjppmgaaGreatCcBC
import Derived.Test.YtdflpkkgjppmgaaGreatCcAW
set_option linter.all false
set_option exponentiation.threshold 3000
set_option linter.deprecated false
/- LISTS IN DESCENDING ORDER: how the reference makes them. -/
open Go.Proofs
namespace Go.PI
open IM
set_option maxRecDepth 20000
set_option maxHeartbeats 4000000
variable (S : FuncId → Option (List AV → Heap → Option (AV × Heap)))
def Gl (v : PV) (σ : List StB) (ys : List Int) : Prop :=
  (v = .nils ∧ ys = []) ∨ (∃ j, v = .own j 0 ys.length ys.length 1 ∧ σ[j]? = some (.live 3 (ys.map pn))) ∨ (∃ j, v = .ownu j ys.length 1 ∧ σ[j]? = some (.live 3 (ys.map pn)))
theorem Gl.fz {v : PV} {σ : List StB} {ys : List Int} (h : Gl v σ ys) : ∃ σ', Fz v σ (pIs ys) σ' := by
  rcases h with ⟨rfl, rfl⟩ | ⟨j, rfl, h⟩ | ⟨j, rfl, h⟩
  · exact ⟨σ, fzN⟩
  · exact ⟨_, fun K hK => ⟨3, _, _, contOf_live h, ⟨by simp, Nat.le_refl _⟩, by rw [List.drop_zero, List.take_of_length_le (by simp)], hK⟩⟩
  · exact ⟨_, fun K hK => ⟨3, _, _, contOf_live h, ⟨by simp, fun _ => rfl⟩, by rw [List.take_of_length_le (by simp)], hK⟩⟩
theorem Gl.push {v : PV} {σ : List StB} {ys : List Int} {b : StB} (h : Gl v σ ys) : Gl v (σ ++ [b]) ys := by
  rcases h with ⟨rfl, rfl⟩ | ⟨j, rfl, h⟩ | ⟨j, rfl, h⟩
  · exact .inl ⟨rfl, rfl⟩
  · exact .inr (.inl ⟨j, rfl, by rw [List.getElem?_append_left (List.getElem?_eq_some_iff.1 h).1]; exact h⟩)
  · exact .inr (.inr ⟨j, rfl, by rw [List.getElem?_append_left (List.getElem?_eq_some_iff.1 h).1]; exact h⟩)
theorem Gl.apW {v : PV} {σ : List StB} {ys : List Int} {T : List PV} {qs : List Tmp} (h : Gl v σ ys) (k : ∀ j, apC T j qs) : PI.apW T qs v := by
  rcases h with ⟨rfl, rfl⟩ | ⟨j, rfl, h⟩ | ⟨j, rfl, h⟩
  · trivial
  · exact k j
  · exact k j
theorem appL {σ : List StB} {v : PV} {ys xs : List Int} { c k : Nat} {K : PV → List StB → Nat → Prop} (hg : Gl v σ ys) (hx : xs.length ≤ 1000000) (hy : ys.length ≤ 1000000) (hk : k < c)
    (hK : ∀ v' σ' k', k ≤ k' → k' ≤ k + 1 → Gl v' σ' (ys ++ xs) → K v' σ' k') : AppK (ctx.plus S) c k σ [22, 22] v (pIs xs) K := by
  rcases hg with ⟨rfl, rfl⟩ | ⟨j, rfl, h⟩ | ⟨j, rfl, h⟩
  · refine ⟨⟨by rw [List.length_map]; show xs.length = xs.length * 1; omega, ⟨⟨by show xs.length ≤ 2 ^ 30; omega, pones_pn xs⟩, fun h => ?_, fun h => ⟨hk, ?_⟩⟩⟩⟩
    · have h0 : xs = [] := List.eq_nil_of_length_eq_zero (by have : (xs).length = 0 := h; exact this)
      have hz := hK .nils σ k (Nat.le_refl _) (by omega) (.inl ⟨rfl, by rw [h0]; rfl⟩)
      exact hz
    · exact hK _ _ _ (by omega) (Nat.le_refl _) (.inr (.inr ⟨σ.length, by simp; rfl, by simp⟩))
  · have hjl := (List.getElem?_eq_some_iff.1 h).1
    refine ⟨⟨by rw [List.length_map]; show xs.length = xs.length * 1; omega, ⟨⟨by show xs.length ≤ 2 ^ 30; omega, pones_pn xs⟩, by show ys.length ≤ 2 ^ 30; omega, fun hc => ?_, fun hc => ⟨hk, 3, _, (ys ++ xs).map pn, contOf_live h, by rw [List.length_map]; show 0 + ys.length * 1 ≤ ys.length; omega, ?_, ?_⟩⟩⟩⟩
    · have h0 : xs = [] := List.eq_nil_of_length_eq_zero (by have : ys.length + xs.length ≤ ys.length := hc; omega)
      refine ⟨3, _, ys.map pn, h, ?_, ?_, ?_⟩
      · show 0 + ys.length * 1 + ((xs).map pn).length ≤ (ys.map pn).length
        rw [h0]
        simp
      · show pspl (ys.map pn) (0 + ys.length * 1) ((xs).map pn) = _
        rw [h0]
        unfold pspl
        simp
      · have hz := hK (.own j 0 (ys.length + xs.length) ys.length 1) (σ.set j (.live 3 (ys.map pn))) k (Nat.le_refl _) (by omega) (.inr (.inl ⟨j, by rw [h0]; simp, ?_⟩))
        · exact hz
        rw [List.getElem?_set_self hjl, h0]
        simp
    · show ((ys.map pn).drop 0).take (ys.length * 1) ++ (xs).map pn = _
      rw [List.drop_zero, List.take_of_length_le (by simp), List.map_append]
    · exact hK _ _ _ (by omega) (Nat.le_refl _) (.inr (.inr ⟨σ.length, by rw [List.length_append]; rfl, by simp⟩))
  · refine ⟨⟨by rw [List.length_map]; show xs.length = xs.length * 1; omega, ⟨⟨by show xs.length ≤ 2 ^ 30; omega, pones_pn xs⟩, ⟨by show ys.length ≤ 2 ^ 30; omega, rfl, hk⟩, _, (ys ++ xs).map pn, h, by rw [List.length_map]; show ys.length * 1 ≤ ys.length; omega, ?_, ?_⟩⟩⟩
    · show (ys.map pn).take (ys.length * 1) ++ (xs).map pn = _
      rw [List.take_of_length_le (by simp), List.map_append]
    · exact hK _ _ _ (by omega) (Nat.le_refl _) (.inr (.inr ⟨(σ.set j .dead).length, by rw [List.length_append, List.length_set], by simp⟩))
theorem app1 {σ : List StB} {v : PV} {ys : List Int} {x : Int} {ty : TypeId} {i m c k : Nat} {K : PV → List StB → Nat → Prop} (hg : Gl v σ ys) (hi : contOf σ i = some (ty, [pn x])) (hy : ys.length ≤ 1000000) (hk : k < c)
    (hK : ∀ v' σ' k', k ≤ k' → k' ≤ k + 1 → Gl v' σ' (ys ++ [x]) → K v' σ' k') : AppK (ctx.plus S) c k σ [22, 22] v (.own i 0 1 1 m) K := by
  rcases hg with ⟨rfl, rfl⟩ | ⟨j, rfl, h⟩ | ⟨j, rfl, h⟩
  · refine ⟨⟨ty, [pn x], [pn x], hi, by show 0 + 1 * 1 ≤ 1; omega, rfl, ⟨⟨by show 1 ≤ 2 ^ 30; decide, pones_pn [x]⟩, fun h => ?_, fun h => ⟨hk, ?_⟩⟩⟩⟩
    · have h0 : [x] = [] := List.eq_nil_of_length_eq_zero (by have : ([x]).length = 0 := h; exact this)
      have hz := hK .nils σ k (Nat.le_refl _) (by omega) (.inl ⟨rfl, by rw [h0]; rfl⟩)
      exact hz
    · exact hK _ _ _ (by omega) (Nat.le_refl _) (.inr (.inr ⟨σ.length, by simp; rfl, by simp⟩))
  · have hjl := (List.getElem?_eq_some_iff.1 h).1
    refine ⟨⟨ty, [pn x], [pn x], hi, by show 0 + 1 * 1 ≤ 1; omega, rfl, ⟨⟨by show 1 ≤ 2 ^ 30; decide, pones_pn [x]⟩, by show ys.length ≤ 2 ^ 30; omega, fun hc => ?_, fun hc => ⟨hk, 3, _, (ys ++ [x]).map pn, contOf_live h, by rw [List.length_map]; show 0 + ys.length * 1 ≤ ys.length; omega, ?_, ?_⟩⟩⟩⟩
    · have h0 : [x] = [] := List.eq_nil_of_length_eq_zero (by have : ys.length + [x].length ≤ ys.length := hc; omega)
      refine ⟨3, _, ys.map pn, h, ?_, ?_, ?_⟩
      · show 0 + ys.length * 1 + (([x]).map pn).length ≤ (ys.map pn).length
        rw [h0]
        simp
      · show pspl (ys.map pn) (0 + ys.length * 1) (([x]).map pn) = _
        rw [h0]
        unfold pspl
        simp
      · have hz := hK (.own j 0 (ys.length + [x].length) ys.length 1) (σ.set j (.live 3 (ys.map pn))) k (Nat.le_refl _) (by omega) (.inr (.inl ⟨j, by rw [h0]; simp, ?_⟩))
        · exact hz
        rw [List.getElem?_set_self hjl, h0]
        simp
    · show ((ys.map pn).drop 0).take (ys.length * 1) ++ ([x]).map pn = _
      rw [List.drop_zero, List.take_of_length_le (by simp), List.map_append]
    · exact hK _ _ _ (by omega) (Nat.le_refl _) (.inr (.inr ⟨σ.length, by rw [List.length_append]; rfl, by simp⟩))
  · refine ⟨⟨ty, [pn x], [pn x], hi, by show 0 + 1 * 1 ≤ 1; omega, rfl, ⟨⟨by show 1 ≤ 2 ^ 30; decide, pones_pn [x]⟩, ⟨by show ys.length ≤ 2 ^ 30; omega, rfl, hk⟩, _, (ys ++ [x]).map pn, h, by rw [List.length_map]; show ys.length * 1 ≤ ys.length; omega, ?_, ?_⟩⟩⟩
    · show (ys.map pn).take (ys.length * 1) ++ ([x]).map pn = _
      rw [List.take_of_length_le (by simp), List.map_append]
    · exact hK _ _ _ (by omega) (Nat.le_refl _) (.inr (.inr ⟨(σ.set j .dead).length, by rw [List.length_append, List.length_set]; rfl, by simp⟩))
def dsc (xs : List Int) : List Int := (srt xs).reverse
theorem dsc_perm (xs : List Int) : (dsc xs).Perm xs := (List.reverse_perm _).trans (List.mergeSort_perm _ _)
theorem srt_pw (xs : List Int) : (srt xs).Pairwise fun a b => a ≤ b := by
  have h := List.pairwise_mergeSort (le := fun x y : Int => decide (x ≤ y)) (fun a b c h1 h2 => by simp at *; omega) (fun a b => by simp; omega) xs
  exact h.imp fun h => by simpa using h
theorem dsc_pw (xs : List Int) : (dsc xs).Pairwise fun a b => b ≤ a := List.pairwise_reverse.2 (srt_pw xs)
theorem dsc_eq {L xs : List Int} (h : L.Perm xs) (hp : L.Pairwise fun a b => b ≤ a) : L = dsc xs :=
  List.Perm.eq_of_pairwise (le := fun a b : Int => b ≤ a) (fun a b _ _ h1 h2 => by omega) hp (dsc_pw xs) (h.trans (dsc_perm xs).symm)
theorem dsc_len (xs : List Int) : (dsc xs).length = xs.length := (dsc_perm xs).length_eq
theorem dsc_self {xs : List Int} (h : xs.Pairwise fun a b => b ≤ a) : dsc xs = xs := (dsc_eq (List.Perm.refl _) h).symm
theorem ins_ok {L ys : List Int} {x : Int} {a : Nat} (hp : L.Perm ys) (hd : L.Pairwise fun a b => b ≤ a) (ha : a ≤ L.length) (h1 : ∀ j y, j < a → L[j]? = some y → x ≤ y) (h2 : ∀ y, L[a]? = some y → y < x) :
    (L.take a ++ [x] ++ L.drop a).Perm (ys ++ [x]) ∧ (L.take a ++ [x] ++ L.drop a).Pairwise fun a b => b ≤ a := by
  refine ⟨?_, ?_⟩
  · have e1 : (L.take a ++ [x] ++ L.drop a).Perm (L.take a ++ L.drop a ++ [x]) := by
      rw [List.append_assoc, List.append_assoc]
      exact List.Perm.append_left _ List.perm_append_comm
    rw [List.take_append_drop] at e1
    exact e1.trans (List.Perm.append_right _ hp)
  · have hd2 := hd
    rw [← List.take_append_drop a L, List.pairwise_append] at hd2
    obtain ⟨p1, p2, p3⟩ := hd2
    have q1 : ∀ y ∈ L.take a, x ≤ y := fun y hy => by
      obtain ⟨j, hj⟩ := List.getElem?_of_mem hy
      have hja : j < a := by
        have := (List.getElem?_eq_some_iff.1 hj).1
        rw [List.length_take] at this
        omega
      rw [List.getElem?_take, if_pos hja] at hj
      exact h1 j y hja hj
    have q2 : ∀ y ∈ L.drop a, y ≤ x := fun y hy => by
      cases hL : L.drop a with
      | nil => rw [hL] at hy; cases hy
      | cons z zs =>
        have hz : L[a]? = some z := by
          have : (L.drop a)[0]? = some z := by rw [hL]; rfl
          rw [List.getElem?_drop] at this
          exact this
        have hzx := h2 z hz
        rw [hL] at hy p2
        rcases List.mem_cons.1 hy with rfl | hy
        · omega
        · have := (List.pairwise_cons.1 p2).1 y hy
          omega
    rw [List.pairwise_append, List.pairwise_append]
    refine ⟨⟨p1, List.pairwise_singleton _ _, fun u hu v hv => by simp at hv; subst hv; exact q1 u hu⟩, p2, fun u hu v hv => ?_⟩
    rcases List.mem_append.1 hu with hu | hu
    · exact p3 u hu v hv
    · simp at hu; subst hu; exact q2 v hv
end Go.PI
/- LISTS IN DESCENDING ORDER: falling, of the reference. -/
open Go.Proofs
namespace Go.PI
open IM
set_option maxRecDepth 20000
set_option maxHeartbeats 4000000
variable (S : FuncId → Option (List AV → Heap → Option (AV × Heap)))
theorem fn71 : ctx.fn 71 = some c71 := by kernel_rfl
theorem falling_ct (hS : OldO S) {xs : List Int} (hl : xs.length ≤ 1000) : Ct (ctx.plus S) 71 [pIs xs] 10000 fun r => r = pIs (dsc xs) := by
  refine ctO_of ⟨fun _ => false, fun _ => false, true⟩ (hS 71 (by decide)) fn71 ?_
  refine ⟨fun m s => ∃ (i b : Nat) (L : List Int) (σ : List StB) (T : List PV), s = ⟨T, σ, b⟩ ∧ Gt T 45 [(0, pIs xs), (3, pIs L), (4, pn i)] ∧ m = xs.length - i ∧ i ≤ xs.length ∧ b ≤ 6 * i ∧ Hid (L.Perm (xs.take i) ∧ L.Pairwise fun a b => b ≤ a), ⟨_, ⟨_, frzS_tmp (i := 3) (v := .nils) (by rfl) (by exact rfl), 0, 0, [], [], _, rfl, ⟨rfl, rfl, rfl, rfl, trivial⟩, rfl, Nat.zero_le _, Nat.le_refl _, ⟨List.Perm.refl _, List.Pairwise.nil⟩⟩⟩, ?_⟩
  rintro m s ⟨i, b, L, σ, T, rfl, hT, hm, hi, hb, hL⟩
  obtain ⟨J, rfl⟩ := gt_open hT
  clear hT
  have hLl : L.length = i := by have := hL.h.1.length_eq; rw [List.length_take] at this; omega
  refine ⟨fun hlt => ?_, fun hge => ?_⟩
  · obtain ⟨x, hx⟩ := xs_get (xs := xs) (i := i) (by omega)
    refine ⟨fun m s => ∃ (a : Nat) (T : List PV), s = ⟨T, σ, b⟩ ∧ Gt T 45 [(0, pIs xs), (3, pIs L), (4, pn i), (5, pn a)] ∧ m = L.length - a ∧ a ≤ L.length ∧ Hid (∀ j y, j < a → L[j]? = some y → x ≤ y), ⟨_, ci ⟨0, _, rfl, ⟨rfl, rfl, rfl, rfl, rfl, trivial⟩, rfl, Nat.zero_le _, ⟨fun j y h => by omega⟩⟩⟩, ?_⟩
    rintro m s ⟨a, T, rfl, hT, hm2, ha, hA⟩
    obtain ⟨J, rfl⟩ := gt_open hT
    clear hT
    refine ⟨by kernel_rfl, ?_⟩
    refine ⟨fun halt => ?_, fun hage => ?_⟩
    · obtain ⟨y, hy⟩ := xs_get (xs := L) (i := a) (by omega)
      refine ⟨⟨⟨by omega, by omega⟩, len_map_le (by omega)⟩, ?_⟩
      refine ⟨_, ld (at_map hy) (by show _ * 1 = a; omega), rfl, ?_⟩
      refine ⟨⟨⟨by omega, by omega⟩, len_map_le (by omega)⟩, ?_⟩
      refine ⟨_, ld (at_map hx) (by show _ * 1 = i; omega), rfl, ?_⟩
      refine ⟨fun hyx => ?_, fun hyx => ?_⟩
      · refine ⟨⟨by omega, by omega⟩, ?_⟩
        exact ⟨_, by omega, ci ⟨a + 1, _, rfl, ⟨rfl, rfl, rfl, rfl, by show pn _ = pn _; norm_cast, trivial⟩, rfl, by omega, ⟨fun j z hj hz => by
          by_cases e : j = a
          · subst e; rw [hy] at hz; cases hz; omega
          · exact hA.h j z (by omega) hz⟩⟩⟩
      · have h2 : ∀ z, L[a]? = some z → z < x := fun z hz => by rw [hy] at hz; cases hz; omega
        refine ⟨by kernel_rfl, ?_⟩
        refine ⟨by omega, part0 ⟨[], rfl, ?_⟩⟩
        have ea : ((a : Int).toNat - 0) = (L.take a).length := by rw [List.length_take]; omega
        refine ⟨by rw [List.length_map]; show L.length = L.length * 1; omega, ⟨by omega, by omega⟩, fun _ => rfl, (L.take a).map pn, ?_, ?_⟩
        · rw [List.map_take]; show List.take ((_ - 0) * 1) (List.drop (0 * 1) _) = _; simp
        rw [ea]
        refine ⟨by repeat (first | exact trivial | refine ⟨trivial, ?_⟩), ?_⟩
        refine appL S (xs := L.take a) (ys := []) (v := .own σ.length 0 0 0 1) (.inr (.inl ⟨σ.length, rfl, push_get⟩)) (by rw [List.length_take]; omega) (by simp) (by omega) fun v1 σ1 k1 hk1 hk1' hg1 => ?_
        refine ⟨⟨⟨by omega, by omega⟩, len_map_le (by omega)⟩, ?_⟩
        refine ⟨_, ld (at_map hx) (by show _ * 1 = i; omega), rfl, ?_⟩
        refine ⟨by omega, part1 fzI ⟨[pn x], rfl, ?_⟩⟩
        refine ⟨hg1.apW fun j => by repeat (first | exact trivial | refine ⟨trivial, ?_⟩), ?_⟩
        refine app1 S (x := x) hg1.push push_cont (by simp; omega) (by omega) fun v2 σ2 k2 hk2 hk2' hg2 => ?_
        have eb : (L.length - (a : Int).toNat) = (L.drop a).length := by rw [List.length_drop]; omega
        refine ⟨by rw [List.length_map]; show L.length = L.length * 1; omega, ⟨by omega, by omega⟩, fun _ => rfl, (L.drop a).map pn, ?_, ?_⟩
        · rw [List.map_drop]; show List.take ((_ - (a : Int).toNat) * 1) (List.drop ((a : Int).toNat * 1) _) = _; simp; exact List.take_of_length_le (by simp)
        rw [eb]
        refine ⟨hg2.apW fun j => by repeat (first | exact trivial | refine ⟨trivial, ?_⟩), ?_⟩
        refine appL S (xs := L.drop a) hg2 (by rw [List.length_drop]; omega) (by simp; omega) (by omega) fun v3 σ3 k3 hk3 hk3' hg3 => ?_
        refine ⟨⟨by omega, by omega⟩, ?_⟩
        obtain ⟨σ4, hf⟩ := hg3.fz
        obtain ⟨q1, q2⟩ := ins_ok hL.h.1 hL.h.2 ha hA.h h2
        refine ⟨_, by omega, ⟨_, frzS_tmp (i := 3) rfl (hf _ rfl), i + 1, _, L.take a ++ [x] ++ L.drop a, _, _, rfl, ⟨rfl, rfl, rfl, by show pn _ = pn _; norm_cast, trivial⟩, rfl, by omega, by omega, ⟨by rw [take_snoc hx]; exact q1, q2⟩⟩⟩
    · have h2 : ∀ z, L[a]? = some z → z < x := fun z hz => by rw [List.getElem?_eq_none (by omega)] at hz; cases hz
      refine ⟨by kernel_rfl, ?_⟩
      refine ⟨by omega, part0 ⟨[], rfl, ?_⟩⟩
      have ea : ((a : Int).toNat - 0) = (L.take a).length := by rw [List.length_take]; omega
      refine ⟨by rw [List.length_map]; show L.length = L.length * 1; omega, ⟨by omega, by omega⟩, fun _ => rfl, (L.take a).map pn, ?_, ?_⟩
      · rw [List.map_take]; show List.take ((_ - 0) * 1) (List.drop (0 * 1) _) = _; simp
      rw [ea]
      refine ⟨by repeat (first | exact trivial | refine ⟨trivial, ?_⟩), ?_⟩
      refine appL S (xs := L.take a) (ys := []) (v := .own σ.length 0 0 0 1) (.inr (.inl ⟨σ.length, rfl, push_get⟩)) (by rw [List.length_take]; omega) (by simp) (by omega) fun v1 σ1 k1 hk1 hk1' hg1 => ?_
      refine ⟨⟨⟨by omega, by omega⟩, len_map_le (by omega)⟩, ?_⟩
      refine ⟨_, ld (at_map hx) (by show _ * 1 = i; omega), rfl, ?_⟩
      refine ⟨by omega, part1 fzI ⟨[pn x], rfl, ?_⟩⟩
      refine ⟨hg1.apW fun j => by repeat (first | exact trivial | refine ⟨trivial, ?_⟩), ?_⟩
      refine app1 S (x := x) hg1.push push_cont (by simp; omega) (by omega) fun v2 σ2 k2 hk2 hk2' hg2 => ?_
      have eb : (L.length - (a : Int).toNat) = (L.drop a).length := by rw [List.length_drop]; omega
      refine ⟨by rw [List.length_map]; show L.length = L.length * 1; omega, ⟨by omega, by omega⟩, fun _ => rfl, (L.drop a).map pn, ?_, ?_⟩
      · rw [List.map_drop]; show List.take ((_ - (a : Int).toNat) * 1) (List.drop ((a : Int).toNat * 1) _) = _; simp; exact List.take_of_length_le (by simp)
      rw [eb]
      refine ⟨hg2.apW fun j => by repeat (first | exact trivial | refine ⟨trivial, ?_⟩), ?_⟩
      refine appL S (xs := L.drop a) hg2 (by rw [List.length_drop]; omega) (by simp; omega) (by omega) fun v3 σ3 k3 hk3 hk3' hg3 => ?_
      refine ⟨⟨by omega, by omega⟩, ?_⟩
      obtain ⟨σ4, hf⟩ := hg3.fz
      obtain ⟨q1, q2⟩ := ins_ok hL.h.1 hL.h.2 ha hA.h h2
      refine ⟨_, by omega, ⟨_, frzS_tmp (i := 3) rfl (hf _ rfl), i + 1, _, L.take a ++ [x] ++ L.drop a, _, _, rfl, ⟨rfl, rfl, rfl, by show pn _ = pn _; norm_cast, trivial⟩, rfl, by omega, by omega, ⟨by rw [take_snoc hx]; exact q1, q2⟩⟩⟩
  · have hii : i = xs.length := by omega
    subst hii
    have : L = dsc xs := dsc_eq (by have := hL.h.1; rwa [List.take_of_length_le (Nat.le_refl _)] at this) hL.h.2
    rw [this]
    exact endq rfl rfl
end Go.PI
/- PRODUCTS OF THE LIBRARY, by 1; one number, repeated. -/
open Go.Proofs
namespace Go.PI
open IM
set_option maxRecDepth 20000
set_option maxHeartbeats 4000000
variable (S : FuncId → Option (List AV → Heap → Option (AV × Heap)))
end Go.PI
/- slices.Reverse. -/
open Go.Proofs
namespace Go.PI
open IM
set_option maxRecDepth 20000
set_option maxHeartbeats 4000000
variable (S : FuncId → Option (List AV → Heap → Option (AV × Heap)))
theorem int_put {xs : List Int} {o j : Nat} {y : Int} (ho : o = j) (hj : j < xs.length) : pspl (xs.map pn) o [pn y] = (xs.set j y).map pn := by
  subst ho
  rw [spl_one (by rw [List.length_map]; exact hj), List.map_set]
def Rv (xs ys : List Int) (i : Nat) : Prop := ys.length = xs.length ∧ ∀ k, k < xs.length → ys[k]? = if k < i ∨ xs.length ≤ k + i then xs[xs.length - 1 - k]? else xs[k]?
theorem rv_zero (xs : List Int) : Rv xs xs 0 := ⟨rfl, fun k hk => by rw [if_neg (by omega)]⟩
theorem rv_end {xs ys : List Int} {i : Nat} (h : Rv xs ys i) (hi : xs.length ≤ 2 * i + 1) : ys = xs.reverse := by
  apply List.ext_getElem?
  intro k
  by_cases hk : k < xs.length
  · rw [h.2 k hk, List.getElem?_reverse hk]
    by_cases hc : k < i ∨ xs.length ≤ k + i
    · rw [if_pos hc]
    · rw [if_neg hc, show xs.length - 1 - k = k by omega]
  · rw [List.getElem?_eq_none (by rw [h.1]; omega), List.getElem?_eq_none (by simp; omega)]
theorem rv_step {xs ys : List Int} {i j : Nat} {x y : Int} (h : Rv xs ys i) (hj : j + i + 1 = xs.length) (hij : i < j) (hx : ys[i]? = some x) (hy : ys[j]? = some y) : Rv xs ((ys.set i y).set j x) (i + 1) := by
  refine ⟨by simp [h.1], fun k hk => ?_⟩
  have hxi := h.2 i (by omega)
  have hyj := h.2 j (by omega)
  rw [hx, if_neg (by omega)] at hxi
  rw [hy, if_neg (by omega)] at hyj
  rw [List.getElem?_set]
  by_cases e1 : j = k
  · subst e1
    rw [if_pos rfl, if_pos (by rw [List.length_set, h.1]; omega), if_pos (by omega), hxi]
    congr 1
    omega
  · rw [if_neg e1, List.getElem?_set]
    by_cases e2 : i = k
    · subst e2
      rw [if_pos rfl, if_pos (by rw [h.1]; omega), if_pos (by omega), hyj]
      congr 1
      omega
    · rw [if_neg e2, h.2 k hk]
      by_cases hc : k < i ∨ xs.length ≤ k + i
      · rw [if_pos hc, if_pos (by omega)]
      · rw [if_neg hc, if_neg (by omega)]
theorem set_same {α : Type} {l : List α} {j : Nat} {x : α} (h : l[j]? = some x) : l.set j x = l := by
  obtain ⟨h1, rfl⟩ := List.getElem?_eq_some_iff.1 h
  exact List.set_getElem_self h1
theorem fn113 : ctx.fn 113 = some c113 := by kernel_rfl
theorem reverse_cm (hS : OldO S) {σ : List StB} {jv n : Nat} {xs : List Int} {v : PV} (hv : v = .own jv 0 n n 1 ∨ v = .ownu jv n 1) (hj : σ[jv]? = some (.live 3 (xs.map pn))) (hl : xs.length = n) (hn : n ≤ 1000) :
    Cm (ctx.plus S) 113 [v] σ 0 fun w σ' => w = .tup [] ∧ σ' = σ.set jv (.live 3 (xs.reverse.map pn)) := by
  refine cm_of Opn.no (hS 113 (by decide)) fn113 fun c k0 hc => ?_
  have hjl := (List.getElem?_eq_some_iff.1 hj).1
  rcases hv with rfl | rfl
  · refine ⟨⟨by omega, by omega⟩, ?_⟩
    refine ⟨fun q s => ∃ (i : Nat) (j : Int) (zs : List Int) (T : List PV), s = ⟨T, σ.set jv (.live 3 (zs.map pn)), k0⟩ ∧ Gt T 28 [(0, .own jv 0 n n 1), (2, pn i), (3, pn j)] ∧ q = n - i ∧ (j = n - 1 - i ∧ i ≤ n) ∧ Hid (Rv xs zs i), ⟨_, ci ⟨0, _, xs, _, by rw [set_same hj], ⟨rfl, rfl, rfl, rfl, trivial⟩, rfl, ⟨by omega, by omega⟩, ⟨rv_zero xs⟩⟩⟩, ?_⟩
    rintro q s ⟨i, j, zs, T, rfl, hT, hq, ⟨hji, hin⟩, hR⟩
    obtain ⟨J, rfl⟩ := gt_open hT
    clear hT
    have hzl : zs.length = n := by rw [hR.h.1]; exact hl
    have hat : (σ.set jv (.live 3 (zs.map pn)))[jv]? = some (.live 3 (zs.map pn)) := List.getElem?_set_self hjl
    have hc1 := contOf_live hat
    refine ⟨fun hlt => ?_, fun hge => ?_⟩
    · obtain ⟨m, rfl⟩ : ∃ m : Nat, j = m := ⟨j.toNat, by omega⟩
      obtain ⟨x, hx⟩ := xs_get (xs := zs) (i := i) (by omega)
      obtain ⟨y, hy⟩ := xs_get (xs := zs) (i := m) (by omega)
      refine ⟨by kernel_rfl, ?_⟩
      refine ⟨⟨by omega, by omega⟩, ?_⟩
      refine ⟨_, load_k rfl rfl hc1 (at_map hy) (by show 0 + _ * 1 = m; omega), rfl, ?_⟩
      refine ⟨⟨by omega, by omega⟩, ?_⟩
      refine ⟨_, load_k rfl rfl hc1 (at_map hx) (by show 0 + _ * 1 = i; omega), rfl, ?_⟩
      refine ⟨⟨by omega, by omega⟩, ?_⟩
      refine ⟨_, _, hat, ⟨rfl, by rw [List.length_map]; show 0 + (i : Int).toNat * 1 + 1 ≤ _; omega, rfl⟩, _, int_put (j := i) (by show 0 + _ * 1 = i; omega) (by omega), _, rfl, ?_⟩
      refine ⟨⟨by omega, by omega⟩, ?_⟩
      refine ⟨_, _, List.getElem?_set_self (by rw [List.length_set]; exact hjl), ⟨rfl, by rw [List.length_map, List.length_set]; show 0 + (m : Int).toNat * 1 + 1 ≤ _; omega, rfl⟩, _, int_put (j := m) (by show 0 + _ * 1 = m; omega) (by rw [List.length_set]; omega), _, by rw [List.set_set, List.set_set], ?_⟩
      refine ⟨⟨by omega, by omega⟩, ?_⟩
      refine ⟨⟨by omega, by omega⟩, ?_⟩
      exact ⟨_, by omega, ci ⟨i + 1, (m : Int) - 1, _, _, rfl, ⟨rfl, rfl, by show pn _ = pn _; norm_cast, rfl, trivial⟩, rfl, ⟨by omega, by omega⟩, ⟨rv_step hR.h (by omega) (by omega) hx hy⟩⟩⟩
    · have he := rv_end hR.h (by omega)
      refine endm [] (by dsimp only; omega) ?_
      rw [he]
      exact ⟨rfl, rfl⟩
  · refine ⟨⟨by omega, by omega⟩, ?_⟩
    refine ⟨fun q s => ∃ (i : Nat) (j : Int) (zs : List Int) (T : List PV), s = ⟨T, σ.set jv (.live 3 (zs.map pn)), k0⟩ ∧ Gt T 28 [(0, .ownu jv n 1), (2, pn i), (3, pn j)] ∧ q = n - i ∧ (j = n - 1 - i ∧ i ≤ n) ∧ Hid (Rv xs zs i), ⟨_, ci ⟨0, _, xs, _, by rw [set_same hj], ⟨rfl, rfl, rfl, rfl, trivial⟩, rfl, ⟨by omega, by omega⟩, ⟨rv_zero xs⟩⟩⟩, ?_⟩
    rintro q s ⟨i, j, zs, T, rfl, hT, hq, ⟨hji, hin⟩, hR⟩
    obtain ⟨J, rfl⟩ := gt_open hT
    clear hT
    have hzl : zs.length = n := by rw [hR.h.1]; exact hl
    have hat : (σ.set jv (.live 3 (zs.map pn)))[jv]? = some (.live 3 (zs.map pn)) := List.getElem?_set_self hjl
    have hc1 := contOf_live hat
    refine ⟨fun hlt => ?_, fun hge => ?_⟩
    · obtain ⟨m, rfl⟩ : ∃ m : Nat, j = m := ⟨j.toNat, by omega⟩
      obtain ⟨x, hx⟩ := xs_get (xs := zs) (i := i) (by omega)
      obtain ⟨y, hy⟩ := xs_get (xs := zs) (i := m) (by omega)
      refine ⟨by kernel_rfl, ?_⟩
      refine ⟨⟨by omega, by omega⟩, ?_⟩
      refine ⟨_, load_k rfl rfl hc1 (at_map hy) (by show 0 + _ * 1 = m; omega), rfl, ?_⟩
      refine ⟨⟨by omega, by omega⟩, ?_⟩
      refine ⟨_, load_k rfl rfl hc1 (at_map hx) (by show 0 + _ * 1 = i; omega), rfl, ?_⟩
      refine ⟨⟨by omega, by omega⟩, ?_⟩
      refine ⟨_, _, hat, ⟨rfl, by rw [List.length_map]; show 0 + (i : Int).toNat * 1 + 1 ≤ _; omega, rfl⟩, _, int_put (j := i) (by show 0 + _ * 1 = i; omega) (by omega), _, rfl, ?_⟩
      refine ⟨⟨by omega, by omega⟩, ?_⟩
      refine ⟨_, _, List.getElem?_set_self (by rw [List.length_set]; exact hjl), ⟨rfl, by rw [List.length_map, List.length_set]; show 0 + (m : Int).toNat * 1 + 1 ≤ _; omega, rfl⟩, _, int_put (j := m) (by show 0 + _ * 1 = m; omega) (by rw [List.length_set]; omega), _, by rw [List.set_set, List.set_set], ?_⟩
      refine ⟨⟨by omega, by omega⟩, ?_⟩
      refine ⟨⟨by omega, by omega⟩, ?_⟩
      exact ⟨_, by omega, ci ⟨i + 1, (m : Int) - 1, _, _, rfl, ⟨rfl, rfl, by show pn _ = pn _; norm_cast, rfl, trivial⟩, rfl, ⟨by omega, by omega⟩, ⟨rv_step hR.h (by omega) (by omega) hx hy⟩⟩⟩
    · have he := rv_end hR.h (by omega)
      refine endm [] (by dsimp only; omega) ?_
      rw [he]
      exact ⟨rfl, rfl⟩
theorem reverse_nil (hS : OldO S) {σ : List StB} : Cm (ctx.plus S) 113 [.nils] σ 0 fun w σ' => w = .tup [] ∧ σ' = σ := by
  refine cm_of Opn.no (hS 113 (by decide)) fn113 fun c k0 hc => ?_
  refine ⟨⟨by omega, by omega⟩, ?_⟩
  refine ⟨fun q s => ∃ (T : List PV), s = ⟨T, σ, k0⟩ ∧ Gt T 28 [(0, .nils), (2, pn 0), (3, pn (-1))] ∧ q = 0, ⟨_, ci ⟨_, rfl, ⟨rfl, rfl, rfl, rfl, trivial⟩, rfl⟩⟩, ?_⟩
  rintro q s ⟨T, rfl, hT, hq⟩
  obtain ⟨J, rfl⟩ := gt_open hT
  clear hT
  refine ⟨fun hlt => absurd hlt (by decide), fun hge => ?_⟩
  refine endm [] (by dsimp only; omega) ?_
  exact ⟨rfl, rfl⟩
end Go.PI
/- TYPES OF STRATA, of the program. -/
open Go.Proofs
namespace Go.PI
open IM
set_option maxRecDepth 20000
set_option maxHeartbeats 4000000
variable (S : FuncId → Option (List AV → Heap → Option (AV × Heap)))
structure OrdN (n : Int) (xs : List Int) : Prop where
  rng : 1 ≤ n ∧ n ≤ 20
  len : xs.length ≤ 1000
  el : ∀ x ∈ xs, 0 ≤ x ∧ x ≤ 20
  fit : sm xs + (xs.length : Int) ≤ n
end Go.PI
/- STRATA, of both. -/
open Go.Proofs
namespace Go.PI
open IM
set_option maxRecDepth 20000
set_option maxHeartbeats 4000000
variable (S : FuncId → Option (List AV → Heap → Option (AV × Heap)))
theorem sm_ge {xs : List Int} (h : ∀ x ∈ xs, 1 ≤ x) : (xs.length : Int) ≤ sm xs := by
  induction xs with
  | nil => simp [sm]
  | cons x xs ih =>
    have h1 := h x List.mem_cons_self
    have h2 := ih fun y hy => h y (List.mem_cons_of_mem _ hy)
    simp only [sm, List.length_cons]
    omega
end Go.PI
/- STRATA, of the reference. -/
open Go.Proofs
namespace Go.PI
open IM
set_option maxRecDepth 20000
set_option maxHeartbeats 4000000
variable (S : FuncId → Option (List AV → Heap → Option (AV × Heap)))
theorem sm_rest {xs : List Int} (h : ∀ x ∈ xs, 0 ≤ x) (i : Nat) : sm (xs.take i) ≤ sm xs := by
  have h1 : sm xs = sm (xs.take i) + sm (xs.drop i) := by rw [← sm_app, List.take_append_drop]
  have h2 : ∀ ys : List Int, (∀ y ∈ ys, 0 ≤ y) → 0 ≤ sm ys := fun ys => by
    induction ys with
    | nil => intro _; exact Int.le_refl _
    | cons y ys ih =>
      intro hy
      have := ih fun z hz => hy z (List.mem_cons_of_mem _ hz)
      have := hy y List.mem_cons_self
      simp only [sm]
      omega
  have := h2 (xs.drop i) fun y hy => h y (List.mem_of_mem_drop hy)
  omega
end Go.PI
/- LISTS OF INTEGERS: what is asked of permutations. -/
open Go.Proofs
namespace Go.PI
open IM
set_option maxRecDepth 10000
set_option maxHeartbeats 4000000
variable (S : FuncId → Option (List AV → Heap → Option (AV × Heap)))
theorem fz_fnc1 {f i : Nat} {ty : TypeId} {cs : List PV} {σ : List StB} (h : contOf σ i = some (ty, cs)) : Fz (.fnc f [.optr i 0]) σ (.fnc f [.lptr cs]) (σ.set i (.frz ty cs)) := fun _ hK => ⟨ty, cs, h, Nat.zero_le _, hK⟩
theorem cloA_of {p : PV} (h : clo p = true) : cloA p = true := by cases p <;> first | exact h | cases h
theorem cloAs_of : ∀ {ps : List PV}, clos ps = true → cloAs ps = true
  | [], _ => rfl
  | p :: ps, h => by
    simp only [clos, Bool.and_eq_true] at h
    simp only [cloAs, cloA_of h.1, cloAs_of h.2, Bool.and_self]
theorem cloAs_cons {p : PV} {ps : List PV} (h1 : cloA p = true) (h : clos ps = true) : cloAs (p :: ps) = true := by simp only [cloAs, h1, cloAs_of h, Bool.and_self]
theorem fn146 : ctx.fn 146 = some c146 := by kernel_rfl
theorem fn145 : ctx.fn 145 = some c145 := by kernel_rfl
theorem fn169 : ctx.fn 169 = some c169 := by kernel_rfl
theorem fn144 : ctx.fn 144 = some c144 := by kernel_rfl
theorem fn110 : ctx.fn 110 = some c110 := by kernel_rfl
theorem owithin_ct (hS : OldO S) {n a b : Int} : Ct (ctx.plus S) 146 [pn n, pn a, pn b] 0 fun r => r = .bool (decide (a ≤ n ∧ n ≤ b)) := by
  refine ct_of (hS 146 (by decide)) fn146 ?_
  refine ⟨fun h1 => ?_, fun h1 => ?_⟩
  · refine ⟨fun h2 => ?_, fun h2 => ?_⟩
    · exact endq rfl (by rw [decide_eq_true ⟨by omega, by omega⟩])
    · exact endq rfl (by rw [decide_eq_false (by omega)])
  · exact endq rfl (by rw [decide_eq_false (by omega)])
theorem outside_ct (hS : OldO S) {xs : List Int} {x : Int} (hl : xs.length ≤ 1000000) : Ct (ctx.plus S) 145 [pn x, .lptr [pIs xs]] 0 fun r => r = .bool (!decide (0 ≤ x ∧ x < xs.length)) := by
  refine ct_of (hS 145 (by decide)) fn145 ?_
  refine ⟨_, rfl, ?_⟩
  refine ⟨⟨by omega, by omega⟩, ?_⟩
  refine callq rfl (owithin_ct S hS) (by omega) ?_
  rintro _ rfl
  by_cases h : 0 ≤ x ∧ x < xs.length
  · rw [decide_eq_true (show 0 ≤ x ∧ x ≤ xs.length - 1 by omega), decide_eq_true h]
    exact endq rfl rfl
  · rw [decide_eq_false (show ¬ (0 ≤ x ∧ x ≤ xs.length - 1) by omega), decide_eq_false h]
    exact endq rfl rfl
theorem indexFunc_ct (hS : OldO S) {xs : List Int} {g d : Nat} {cs : List PV} {P : Int → Bool} (hc : clos cs = true) (hl : xs.length ≤ 1000000) (hg : ∀ x ∈ xs, Ct (ctx.plus S) g (pn x :: cs) 0 fun r => r = .bool (P x)) :
    Ct (ctx.plus S) 169 [pIs xs, .fnc g cs] 0 fun r => ∃ v : Int, r = pn v ∧ (0 ≤ v ↔ ∃ x ∈ xs, P x = true) := by
  refine ct_of (hS 169 (by decide)) fn169 ?_
  refine ⟨fun m s => ∃ (i : Nat) (T : List PV), s = ⟨T, [], 0⟩ ∧ Gt T 19 [(0, pIs xs), (1, .fnc g cs), (7, pn xs.length), (8, pn i)] ∧ m = xs.length - i ∧ i ≤ xs.length ∧ Hid (∀ x ∈ xs.take i, P x = false), ⟨_, ci ⟨0, _, rfl, ⟨rfl, rfl, rfl, rfl, rfl, trivial⟩, rfl, Nat.zero_le _, ⟨fun x hx => by simp at hx⟩⟩⟩, ?_⟩
  rintro _ s ⟨i, T, rfl, hT, rfl, hi, hn⟩
  obtain ⟨J, rfl⟩ := gt_open hT
  clear hT
  refine ⟨fun hlt => ?_, fun hge => ?_⟩
  · obtain ⟨e, he⟩ := xs_get (xs := xs) (i := i) (by omega)
    have hm := List.mem_of_getElem? he
    refine ⟨⟨⟨by omega, by omega⟩, len_map_le (by omega)⟩, ?_⟩
    refine ⟨_, ld (at_map he) (by show _ * 1 = i; omega), ?_⟩
    refine callq (ps := pn e :: cs) (cloAs_cons rfl hc) (hg e hm) (by omega) ?_
    rintro _ rfl
    cases hp : P e with
    | true => exact endq rfl ⟨i, rfl, fun _ => ⟨e, hm, hp⟩, fun _ => by omega⟩
    | false =>
      refine ⟨⟨by omega, by omega⟩, ?_⟩
      exact ⟨_, by omega, ci ⟨i + 1, _, rfl, ⟨rfl, rfl, rfl, rfl, rfl, trivial⟩, rfl, by omega, ⟨fun x hx => by
        rw [take_snoc he] at hx
        rcases List.mem_append.1 hx with hx | hx
        · exact hn.h x hx
        · rw [List.mem_singleton.1 hx]; exact hp⟩⟩⟩
  · refine endq rfl ⟨-1, rfl, fun h => by omega, fun ⟨x, hx, hp⟩ => ?_⟩
    have := hn.h x (by rw [List.take_of_length_le (by omega)]; exact hx)
    rw [hp] at this
    cases this
theorem containsFunc_ct (hS : OldO S) {xs : List Int} {g d : Nat} {cs : List PV} {P : Int → Bool} (hc : clos cs = true) (hl : xs.length ≤ 1000000) (hg : ∀ x ∈ xs, Ct (ctx.plus S) g (pn x :: cs) 0 fun r => r = .bool (P x)) :
    Ct (ctx.plus S) 144 [pIs xs, .fnc g cs] 0 fun r => ((∃ x ∈ xs, P x = true) ∧ r = .bool true) ∨ ((∀ x ∈ xs, P x = false) ∧ r = .bool false) := by
  refine ct_of (hS 144 (by decide)) fn144 ?_
  refine callq (ps := [pIs xs, .fnc g cs]) (by simp only [cloAs, cloA, hc]; rfl) (indexFunc_ct S hS hc hl hg (d := d)) (by omega) ?_
  rintro _ ⟨v, rfl, hv⟩
  refine ⟨fun h => ?_, fun h => ?_⟩
  · exact endq rfl (.inl ⟨hv.1 h, rfl⟩)
  · exact endq rfl (.inr ⟨fun x hx => by
      cases hp : P x with
      | false => rfl
      | true => exact absurd (hv.2 ⟨x, hx, hp⟩) (by omega), rfl⟩)
def SeenF (xs : List Int) (i : Nat) (fl : List Bool) : Prop := fl.length = xs.length ∧ (xs.take i).Nodup ∧ ∀ j : Nat, fl[j]? = some true ↔ (j : Int) ∈ xs.take i ∧ j < xs.length
theorem seen_next {xs : List Int} {i j : Nat} {fl : List Bool} (h : SeenF xs i fl) (he : xs[i]? = some (j : Int)) (hj : j < xs.length) (hf : fl[j]? = some false) : SeenF xs (i + 1) (fl.set j true) := by
  obtain ⟨h1, h2, h3⟩ := h
  have hni : (j : Int) ∉ xs.take i := fun hm => by
    have := (h3 j).2 ⟨hm, hj⟩
    rw [hf] at this; cases this
  refine ⟨by simp [h1], ?_, fun k => ?_⟩
  · rw [take_snoc he]
    exact List.nodup_append.2 ⟨h2, by simp, fun a ha b hb => by rw [List.mem_singleton.1 hb]; rintro rfl; exact hni ha⟩
  · rw [take_snoc he, List.mem_append]
    by_cases hk : k = j
    · subst hk
      rw [List.getElem?_set_self (by omega)]
      simp [hj]
    · rw [List.getElem?_set_ne (Ne.symm hk), h3 k]
      constructor
      · rintro ⟨a, b⟩; exact ⟨.inl a, b⟩
      · rintro ⟨a | a, b⟩
        · exact ⟨a, b⟩
        · have := List.mem_singleton.1 a
          omega
theorem flg_zero {n : Nat} : (List.replicate n [PV.bool false]).flatten = (List.replicate n false).map PV.bool := by
  rw [List.flatten_replicate_singleton, List.map_replicate]
theorem flg_put {fl : List Bool} {o j : Nat} (ho : o = j) (hj : j < fl.length) : pspl (fl.map PV.bool) o [.bool true] = (fl.set j true).map PV.bool := by
  rw [spl_at ho (by rw [List.length_map]; exact hj), List.map_set]
theorem checkP_ct (hS : OldO S) {xs : List Int} (hl : xs.length ≤ 1000000) : Ct (ctx.plus S) 110 [pIs xs] 2 fun r => r = pn (chkP xs) := by
  refine ct_of (hS 110 (by decide)) fn110 ?_
  refine ⟨by omega, ?_⟩
  refine ⟨_, rfl, ?_⟩
  refine cal2 (fzL) (fz_fnc1 rfl) (containsFunc_ct S hS (d := 0) (P := fun x => !decide (0 ≤ x ∧ x < xs.length)) rfl hl fun x _ => outside_ct S hS hl) (by omega) ?_
  rintro _ (⟨⟨x, hx, hp⟩, rfl⟩ | ⟨hall, rfl⟩)
  · exact endq rfl (by rw [chk2 fun h => by have := h x hx; simp [this] at hp])
  have hin : InR xs := fun x hx => by
    have := hall x hx
    simpa using this
  refine ⟨_, rfl, ?_⟩
  refine ⟨by omega, ⟨by omega, by omega, by omega⟩, _, flg_zero, ?_⟩
  refine ⟨_, rfl, ?_⟩
  have hn0 : SeenF xs 0 (List.replicate xs.length false) := ⟨by simp, by simp, fun j => by
    simp only [List.take_zero, List.not_mem_nil, false_and, iff_false]
    rw [List.getElem?_replicate]
    split <;> simp⟩
  refine ⟨fun m s => ∃ (i : Nat) (fl : List Bool) (T : List PV), s = ⟨T, [.frz 22 [pIs xs], .live 4 (fl.map PV.bool)], 2⟩ ∧ Gt T 26 [(1, .optr 0 0), (3, .own 1 0 xs.length xs.length 1), (12, pIs xs), (13, pn xs.length), (14, pn i)] ∧ m = xs.length - i ∧ i ≤ xs.length ∧ Hid (SeenF xs i fl), ⟨_, ci ⟨0, _, _, rfl, ⟨rfl, rfl, rfl, rfl, rfl, rfl, trivial⟩, rfl, Nat.zero_le _, ⟨hn0⟩⟩⟩, ?_⟩
  rintro _ s ⟨i, fl, T, rfl, hT, rfl, hi, hn⟩
  obtain ⟨J, rfl⟩ := gt_open hT
  clear hT
  refine ⟨fun hlt => ?_, fun hge => ?_⟩
  · obtain ⟨e, he⟩ := xs_get (xs := xs) (i := i) (by omega)
    have hm := hin e (List.mem_of_getElem? he)
    obtain ⟨j, rfl⟩ : ∃ j : Nat, e = j := ⟨e.toNat, by omega⟩
    have hj : j < xs.length := by omega
    have hfl : fl.length = xs.length := hn.h.1
    refine ⟨⟨⟨by omega, by omega⟩, len_map_le (by omega)⟩, ?_⟩
    refine ⟨_, ld (at_map he) (by show _ * 1 = i; omega), ?_⟩
    refine ⟨⟨by omega, by omega⟩, ?_⟩
    obtain ⟨b, hb⟩ : ∃ b, fl[j]? = some b := ⟨fl[j]'(by omega), List.getElem?_eq_getElem _⟩
    refine ⟨_, load_k rfl rfl rfl (at_map hb) (by show 0 + _ * 1 = j; omega), ?_⟩
    cases b with
    | true =>
      refine endq rfl ?_
      rw [chk3 hin fun hnd => ?_]
      have h1 := ((hn.h.2.2 j).1 hb).1
      obtain ⟨q, hq⟩ := List.getElem?_of_mem h1
      have hqi : q < i := by
        have := (List.getElem?_eq_some_iff.1 hq).1
        rw [List.length_take] at this; omega
      rw [List.getElem?_take, if_pos hqi] at hq
      rw [← he] at hq
      have := (List.getElem?_inj (by omega) hnd).1 hq
      omega
    | false =>
      refine ⟨⟨by omega, by omega⟩, ?_⟩
      refine ⟨_, _, rfl, ⟨rfl, by rw [List.length_map]; show 0 + j * 1 + 1 ≤ _; omega, rfl⟩, _, flg_put (by show 0 + j * 1 = j; omega) (by omega), _, rfl, ?_⟩
      refine ⟨⟨by omega, by omega⟩, ?_⟩
      exact ⟨_, by omega, ci ⟨i + 1, _, _, rfl, ⟨rfl, rfl, rfl, rfl, rfl, rfl, trivial⟩, rfl, by omega, ⟨seen_next hn.h he hj hb⟩⟩⟩
  · refine endq rfl ?_
    have := hn.h.2.1
    rw [List.take_of_length_le (by omega)] at this
    rw [chk0 hin this]
end Go.PI
/- FRACTIONS of the reference; the formulas of both. -/
open Go.Proofs
namespace Go.PI
open IM
set_option maxRecDepth 20000
set_option maxHeartbeats 4000000
variable (S : FuncId → Option (List AV → Heap → Option (AV × Heap)))
theorem fn63 : ctx.fn 63 = some c63 := by kernel_rfl
theorem rquot_ct (hS : OldO S) {xs ys : List Int} {X Y : Int} (hx : Rw xs X) (hy : Rw ys Y) (lX : (digits X).length ≤ 18) (lY : (digits Y).length ≤ 18) (hY : Y ≠ 0) : Ct (ctx.plus S) 63 [pIs xs, pIs ys] 20000000 fun r => r = pI (X / Y) := by
  refine ct_of (hS 63 (by decide)) fn63 ?_
  refine callq rfl (rdivmod_ct S (oldR_of S hS) hx hy lX lY hY) (by omega) ?_
  rintro _ rfl
  exact endq rfl rfl
end Go.PI
/- FACTORIALS AND CENTRALIZERS, of both. -/
open Go.Proofs
namespace Go.PI
open IM
set_option maxRecDepth 20000
set_option maxHeartbeats 4000000
variable (S : FuncId → Option (List AV → Heap → Option (AV × Heap)))
def fac : Nat → Nat
  | 0 => 1
  | n + 1 => fac n * (n + 1)
theorem fac_mono {m n : Nat} (h : m ≤ n) : fac m ≤ fac n := by
  induction n with
  | zero => have : m = 0 := by omega
            subst this; exact Nat.le_refl _
  | succ n ih =>
    rcases Nat.lt_or_ge n m with h1 | h1
    · have : m = n + 1 := by omega
      subst this; exact Nat.le_refl _
    · exact Nat.le_trans (ih h1) (Nat.le_mul_of_pos_right _ (Nat.succ_pos n))
theorem fac_20 {n : Nat} (h : n ≤ 20) : fac n ≤ 2432902008176640000 := Nat.le_trans (fac_mono h) (by decide)
theorem fac_up {m n : Nat} (h : m + 1 ≤ n) : fac m * n ≤ fac n := by
  obtain ⟨k, rfl⟩ : ∃ k, n = k + 1 := ⟨n - 1, by omega⟩
  exact Nat.mul_le_mul_right _ (fac_mono (by omega))
theorem fn87 : ctx.fn 87 = some c87 := by kernel_rfl
theorem factorial_ct (hS : OldO S) {n : Nat} (hn : n ≤ 20) : Ct (ctx.plus S) 87 [pn n] 0 fun r => r = pn (fac n) := by
  refine ct_of (hS 87 (by decide)) fn87 ?_
  refine ⟨fun m s => ∃ (k : Nat) (T : List PV), s = ⟨T, [], 0⟩ ∧ Gt T 15 [(3, pn (fac k : Nat)), (5, pn n), (6, pn k)] ∧ m = n - k ∧ k ≤ n, ⟨_, ci ⟨0, _, rfl, ⟨rfl, rfl, rfl, rfl, trivial⟩, rfl, Nat.zero_le _⟩⟩, ?_⟩
  rintro m s ⟨k, T, rfl, hT, hm, hk⟩
  obtain ⟨J, rfl⟩ := gt_open hT
  clear hT
  refine ⟨fun hlt => ?_, fun hge => ?_⟩
  · have hb := fac_20 (n := k + 1) (by omega)
    have e : (fac k : Int) * ((k : Int) + 1) = ((fac (k + 1) : Nat) : Int) := by
      show _ = ((fac k * (k + 1) : Nat) : Int)
      rw [Int.natCast_mul]
      rfl
    refine ⟨⟨by omega, by omega⟩, ?_⟩
    refine ⟨by rw [e]; unfold In64; omega, ?_⟩
    refine ⟨⟨by omega, by omega⟩, ?_⟩
    exact ⟨_, by omega, ci ⟨k + 1, _, rfl, ⟨rfl, by show pn _ = pn _; rw [e], rfl, by show pn _ = pn _; norm_cast, trivial⟩, rfl, by omega⟩⟩
  · have : k = n := by omega
    subst this
    exact endq rfl rfl
def eqn (xs : List Int) : Nat → Nat
  | 0 => 0
  | i + 1 => if 0 < i ∧ xs.getD i 0 ≠ xs.getD (i - 1) 0 then 1 else eqn xs i + 1
def cen (xs : List Int) : Nat → Int
  | 0 => 1
  | i + 1 => cen xs i * (xs.getD i 0 * eqn xs (i + 1))
theorem eqn_bd {xs : List Int} (h : ∀ x ∈ xs, 1 ≤ x) : ∀ {i : Nat}, i < xs.length → (eqn xs (i + 1) : Int) * xs.getD i 0 ≤ sm (xs.take (i + 1))
  | 0, hi => by
    obtain ⟨x, hx⟩ := xs_get hi
    rw [sm_next hx, getD_of hx]
    show ((0 + 1 : Nat) : Int) * x ≤ 0 + x
    omega
  | i + 1, hi => by
    obtain ⟨x, hx⟩ := xs_get hi
    have ih := eqn_bd h (i := i) (by omega)
    have hs : 0 ≤ sm (xs.take (i + 1)) := by
      have := sm_ge (xs := xs.take (i + 1)) fun y hy => h y (List.mem_of_mem_take hy)
      omega
    rw [sm_next hx, getD_of hx]
    show ((if 0 < i + 1 ∧ xs.getD (i + 1) 0 ≠ xs.getD (i + 1 - 1) 0 then 1 else eqn xs (i + 1) + 1 : Nat) : Int) * x ≤ _
    split
    · show (1 : Int) * x ≤ _
      omega
    · rename_i hc
      have e : xs.getD (i + 1) 0 = xs.getD i 0 := by
        rcases Classical.em (xs.getD (i + 1) 0 = xs.getD i 0) with h1 | h1
        · exact h1
        · exact absurd ⟨by omega, h1⟩ hc
      rw [getD_of hx] at e
      rw [← e] at ih
      have : ((eqn xs (i + 1) + 1 : Nat) : Int) * x = (eqn xs (i + 1) : Int) * x + x := by
        rw [Int.natCast_add, Int.add_mul]
        show _ + 1 * x = _
        omega
      omega
theorem eqn_pos (xs : List Int) (i : Nat) : 1 ≤ eqn xs (i + 1) := by
  simp only [eqn]
  split
  · exact Nat.le_refl 1
  · exact Nat.succ_le_succ (Nat.zero_le _)
theorem cen_bd {xs : List Int} (h : ∀ x ∈ xs, 1 ≤ x) : ∀ {i : Nat}, i ≤ xs.length → 1 ≤ cen xs i ∧ cen xs i ≤ fac (sm (xs.take i)).toNat
  | 0, _ => by
    show (1 : Int) ≤ 1 ∧ (1 : Int) ≤ ((fac 0 : Nat) : Int)
    exact ⟨Int.le_refl _, Int.le_refl _⟩
  | i + 1, hi => by
    obtain ⟨x, hx⟩ := xs_get (xs := xs) (i := i) (by omega)
    obtain ⟨c1, c2⟩ := cen_bd h (i := i) (by omega)
    have hx1 := h x (List.mem_of_getElem? hx)
    have hb := eqn_bd h (i := i) (by omega)
    have hp := eqn_pos xs i
    have hs : 0 ≤ sm (xs.take i) := by
      have := sm_ge (xs := xs.take i) fun y hy => h y (List.mem_of_mem_take hy)
      omega
    have hn := sm_next hx
    rw [getD_of hx] at hb
    obtain ⟨a, ha⟩ : ∃ a : Nat, sm (xs.take i) = a := ⟨(sm (xs.take i)).toNat, by omega⟩
    obtain ⟨b, hb'⟩ : ∃ b : Nat, sm (xs.take (i + 1)) = b := ⟨(sm (xs.take (i + 1))).toNat, by omega⟩
    rw [ha] at c2 hn
    rw [hb'] at hb hn ⊢
    have e1 : x * (eqn xs (i + 1) : Int) = (eqn xs (i + 1) : Int) * x := Int.mul_comm _ _
    have h1 : 1 ≤ x * (eqn xs (i + 1) : Int) := by
      have : (1 : Int) * 1 ≤ x * (eqn xs (i + 1) : Int) := Int.mul_le_mul hx1 (by omega) (by omega) (by omega)
      omega
    show 1 ≤ cen xs i * (xs.getD i 0 * eqn xs (i + 1)) ∧ cen xs i * (xs.getD i 0 * eqn xs (i + 1)) ≤ _
    rw [getD_of hx]
    refine ⟨?_, ?_⟩
    · have : (1 : Int) * 1 ≤ cen xs i * (x * (eqn xs (i + 1) : Int)) := Int.mul_le_mul c1 h1 (by omega) (by omega)
      omega
    · have k1 : cen xs i * (x * (eqn xs (i + 1) : Int)) ≤ (fac a : Int) * b := Int.mul_le_mul c2 (by omega) (by omega) (by omega)
      have k2 := fac_up (m := a) (n := b) (by omega)
      have k3 : (fac a : Int) * b ≤ fac b := by rw [← Int.natCast_mul]; omega
      show _ ≤ ((fac b : Nat) : Int)
      exact Int.le_trans k1 k3
end Go.PI
