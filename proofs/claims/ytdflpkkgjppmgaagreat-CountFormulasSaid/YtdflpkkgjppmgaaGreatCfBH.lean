/- Own work of the verifier: CvInt CvRatQ CvRtr CvRsz CvQuot CiMix. -/
import Derived.Test.YtdflpkkgjppmgaaGreatCfAU
import Derived.Test.YtdflpkkgjppmgaaGreatCfBG
import Derived.Test.YtdflpkkgjppmgaaGreatCfBF
set_option linter.all false
set_option exponentiation.threshold 3000
set_option linter.deprecated false
/- PLAIN VALUES: the arithmetic of integers of any size. -/
open Go.Proofs
namespace Go.PI
open IM
set_option maxRecDepth 10000
set_option maxHeartbeats 1000000
theorem ints_rel {H : Heap} {W : Nat → Prop} : ∀ {xs : List Int} {l : List AV}, All2 (RelC H W) (xs.map pn) l → l = ints xs
  | [], _, h => by cases h; rfl
  | x :: xs, _, h => by
    cases h with
    | cons h1 h2 =>
      cases h1
      rw [ints_rel h2]
      rfl
theorem rel_ints {H : Heap} {W : Nat → Prop} : ∀ (xs : List Int), All2 (RelC H W) (xs.map pn) (ints xs)
  | [] => .nil
  | x :: xs => .cons (.int _ _) (rel_ints xs)
theorem sl_rel {H : Heap} {W : Nat → Prop} {xs : List Int} {a : AV} (h : RelC H W (pIs xs) a) : Sl H a xs ∧ Cp a := by
  have key : ∀ {n : Nat} {cs : List PV}, RelC H W (.lst n cs) a → n = xs.length → cs = xs.map pn → Sl H a xs ∧ Cp a := by
    intro n cs h hn hc
    cases h with
    | lnil => exact ⟨List.eq_nil_of_length_eq_zero hn.symm, trivial⟩
    | lsle => exact ⟨List.eq_nil_of_length_eq_zero hn.symm, trivial⟩
    | sl h1 h2 h3 h4 h5 =>
      subst hc
      rw [List.length_map] at h3 h5
      subst hn
      exact ⟨⟨rfl, _, _, _, h2, h3, ints_rel h5⟩, h4⟩
    | slu h1 h2 h3 h4 h5 =>
      subst hc
      rw [List.length_map] at h3 h4 h5
      subst hn
      refine ⟨⟨?_, rfl, _, _, _, h2, h3, ints_rel h5⟩, trivial⟩
      rcases Nat.eq_zero_or_pos xs.length with h0 | h0
      · exact h4.2 h0
      · have := h4.1
        rename_i e _ _ _
        have h6 : xs.length * e = xs.length * 1 := by omega
        exact Nat.eq_of_mul_eq_mul_left h0 h6
  exact key h rfl rfl
theorem rel_mine {H H' : Heap} {W : Nat → Prop} {xs : List Int} {a : AV} (hw : ∀ b, W b → b < H.n) (h : Mine H H.n a xs H') : RelC H' W (pIs xs) a := by
  obtain ⟨h1, h2, b, zs, ⟨h3, h4, h5⟩, h6, h7⟩ := h
  have hW : ¬ W b := fun h => by have := hw b h; omega
  have hb : 0 + (xs.map pn).length ≤ (ints zs).length := by simp [ints_length]; exact h4
  have hr : All2 (RelC H' W) (xs.map pn) (((ints zs).drop 0).take (xs.map pn).length) := by
    rw [List.drop_zero, List.length_map, ints_take, h6]
    exact rel_ints xs
  rcases h5 with ⟨c, rfl, h8, h9⟩ | rfl
  · exact .sl hW h3 hb h8 hr
  · exact .slu hW h3 hb ⟨by simp, fun _ => rfl⟩ hr
theorem mine_kp {H H' : Heap} {xs : List Int} {a : AV} {c : Nat} (h : Mine H H.n a xs H') (hc : H'.n ≤ H.n + c) : KpH H H' c := ⟨h.n, hc, fun A hA => h.keep A hA (by omega)⟩
theorem kp_of {H H' : Heap} {c : Nat} (k : Kp H H' c) : KpH H H' c := ⟨k.n, k.m, k.get⟩
variable (S : FuncId → Option (List AV → Heap → Option (AV × Heap)))
theorem sign_ct (h : S 183 = none) {X : Int} (hl : (digits X).length ≤ 1000000) : Ct (ctx.plus S) 183 [pI X] 0 fun r => r = pn (Int.sign X) := by
  intro H W avs hw hr hn
  cases hr with
  | cons h1 hr =>
    cases hr
    refine (sign_run S h (by omega) (sl_rel h1).1).mono ?_
    rintro _ _ ⟨rfl, rfl⟩
    have hs : sgnL (digits X) = Int.sign X := by
      have hv := val_digits X
      rcases sgn_val (nrm_digits X) with ⟨a, b, c⟩ | ⟨a, b, c, -⟩ | ⟨a, b, c, -⟩
      · rw [hv] at c; rw [a, c]; rfl
      · rw [hv] at c; rw [a, Int.sign_eq_one_of_pos c]
      · rw [hv] at c; rw [a, Int.sign_eq_neg_one_of_neg c]
    rw [hs]
    exact ⟨_, rfl, .int _ _, KpH.refl _ _⟩
theorem of_ct (hS : Old S) (h : S 78 = none) {n : Int} (hn : In64 n) : Ct (ctx.plus S) 78 [pn n] 12 fun r => r = pI n := by
  intro H W avs hw hr hl
  cases hr with
  | cons h1 hr =>
    cases hr
    cases h1
    refine (of_run2 S hS h hl hn).mono ?_
    rintro r H' ⟨hM, hm⟩
    exact ⟨_, rfl, rel_mine hw hM, mine_kp hM (by omega)⟩
theorem plus_ct (hS : Old S) (h : S 152 = none) {X Y f : Int} (lx : (digits X).length ≤ 1000000) (ly : (digits Y).length ≤ 1000000) (hf : -100000000 ≤ f ∧ f ≤ 100000000) :
    Ct (ctx.plus S) 152 [pI X, pn f, pI Y] 20 fun r => r = pI (X + f * Y) := by
  intro H W avs hw hr hl
  cases hr with
  | cons h1 hr => cases hr with
    | cons h2 hr => cases hr with
      | cons h3 hr =>
        cases hr
        cases h2
        refine (plus_run2 S hS h hl (sl_rel h1).1 (sl_rel h3).1 lx ly (nrm_digits X).sml' (nrm_digits Y).sml' hf).mono ?_
        rintro r H' ⟨hM, hm⟩
        rw [val_digits, val_digits] at hM
        exact ⟨_, rfl, rel_mine hw hM, mine_kp hM (by omega)⟩
theorem neg_ct (h : S 193 = none) {X : Int} (lx : (digits X).length ≤ 1000000) : Ct (ctx.plus S) 193 [pI X] 8 fun r => r = pI (-X) := by
  intro H W avs hw hr hl
  cases hr with
  | cons h1 hr =>
    cases hr
    have hs := (nrm_digits X).sml'
    refine (negative_run2 S h (by omega) (sl_rel h1).1 lx fun e he => by have := hs e he; unfold In64; omega).mono ?_
    rintro r H' ⟨hM, hm⟩
    unfold negL at hM
    rw [negd] at hM
    exact ⟨_, rfl, rel_mine hw hM, mine_kp hM (by omega)⟩
theorem size_ct (h187 : S 187 = none) (h183 : S 183 = none) (h193 : S 193 = none) {X : Int} (lx : (digits X).length ≤ 1000000) : Ct (ctx.plus S) 187 [pI X] 8 fun r => r = pI X.natAbs := by
  intro H W avs hw hr hl
  cases hr with
  | cons h1 hr =>
    cases hr
    have hs := (nrm_digits X).sml'
    have hv := val_digits X
    refine (size_run2 S h187 h183 h193 (by omega) (sl_rel h1).1 lx fun e he => by have := hs e he; unfold In64; omega).mono ?_
    rintro r H' ⟨hM, hm⟩
    by_cases hn : sgnL (digits X) < 0
    · rw [if_pos hn] at hM
      have hX : X < 0 := by rcases sgn_val (nrm_digits X) with ⟨a, -, c⟩ | ⟨a, -, c, -⟩ | ⟨a, -, c, -⟩ <;> omega
      unfold negL at hM
      rw [negd, show -X = (X.natAbs : Int) by omega] at hM
      exact ⟨_, rfl, rel_mine hw hM, mine_kp hM (by omega)⟩
    · rw [if_neg hn] at hM
      obtain ⟨rfl, rfl⟩ := hM
      have hX : 0 ≤ X := by rcases sgn_val (nrm_digits X) with ⟨a, -, c⟩ | ⟨a, -, c, -⟩ | ⟨a, -, c, -⟩ <;> omega
      refine ⟨_, rfl, ?_, KpH.refl _ _⟩
      rw [show (X.natAbs : Int) = X by omega]
      exact h1
structure Rw (xs : List Int) (X : Int) : Prop where
  in64 : ∀ e ∈ xs, In64 e
  len : xs.length ≤ 200
  val : val xs = X
  dl : (digits X).length ≤ 200
theorem Rw.of {X : Int} (h : (digits X).length ≤ 200) : Rw (digits X) X := ⟨fun e he => by have := (nrm_digits X).sml' e he; unfold In64; omega, h, val_digits X, h⟩
theorem Rw.one {c : Int} (h : -100000000 < c ∧ c < 100000000) : Rw [c] c := by
  have p1 : pw 1 = 100000000 := by decide
  have hl : (digits c).length ≤ 1 := len_of (k := 1) (by omega)
  refine ⟨fun e he => ?_, by simp, by simp [IM.val], by omega⟩
  simp at he
  subst he
  unfold In64; omega
theorem svb_rel {H : Heap} {W : Nat → Prop} {xs : List Int} {X : Int} {a : AV} (h : RelC H W (pIs xs) a) (hX : Rw xs X) : SVB H a xs X :=
  ⟨(sl_rel h).1, hX.in64, hX.len, hX.val, hX.dl⟩
theorem radd_ct (hR : OldR S) {xs ys : List Int} {X Y : Int} (hx : Rw xs X) (hy : Rw ys Y) : Ct (ctx.plus S) 75 [pIs xs, pIs ys] 100000 fun r => r = pI (X + Y) := by
  intro H W avs hw hr hl
  cases hr with
  | cons h1 hr => cases hr with
    | cons h2 hr =>
      cases hr
      refine (radd_runB S hR hl (svb_rel h1 hx) (svb_rel h2 hy)).mono ?_
      rintro r H' ⟨hM, hm⟩
      exact ⟨_, rfl, rel_mine hw hM, mine_kp hM (by omega)⟩
theorem rsub_ct (hR : OldR S) {xs ys : List Int} {X Y : Int} (hx : Rw xs X) (hy : Rw ys Y) : Ct (ctx.plus S) 90 [pIs xs, pIs ys] 200000 fun r => r = pI (X - Y) := by
  intro H W avs hw hr hl
  cases hr with
  | cons h1 hr => cases hr with
    | cons h2 hr =>
      cases hr
      refine (rsub_runB S hR hl (svb_rel h1 hx) (svb_rel h2 hy)).mono ?_
      rintro r H' ⟨hM, hm⟩
      exact ⟨_, rfl, rel_mine hw hM, mine_kp hM (by omega)⟩
theorem rneg_ct (hR : OldR S) {xs : List Int} {X : Int} (hx : Rw xs X) : Ct (ctx.plus S) 118 [pIs xs] 100000 fun r => r = pI (-X) := by
  intro H W avs hw hr hl
  cases hr with
  | cons h1 hr =>
    cases hr
    refine (rneg_runB S hR hl (svb_rel h1 hx)).mono ?_
    rintro r H' ⟨hM, hm⟩
    exact ⟨_, rfl, rel_mine hw hM, mine_kp hM (by omega)⟩
end Go.PI
/- slices of integers, which need not be in normal form -/
open Go.Proofs
namespace Go.PI
open IM
set_option maxRecDepth 10000
set_option maxHeartbeats 4000000
end Go.PI
/- trim, signed, size and Normal of the reference, with plain values. -/
open Go.Proofs
namespace Go.PI
open IM
set_option maxRecDepth 10000
set_option maxHeartbeats 4000000
variable (S : FuncId → Option (List AV → Heap → Option (AV × Heap)))
theorem rtrim_cm (h125 : S 125 = none) {xs : List Int} {σ : List StB} (hl : xs.length ≤ 1000000) : Cm (ctx.plus S) 125 [pIs xs] σ 3 fun r σ' => Wrt σ σ' r (trimL xs) := by
  refine cm_of Opn.no h125 fn125 fun c k0 hc => ?_
  refine ⟨fun m s => ∃ (i : Nat) (T : List PV), s = ⟨T, σ, k0⟩ ∧ Gt T 23 [(0, pIs xs), (3, pn i)] ∧ m = i ∧ i ≤ xs.length ∧ (∀ j, i ≤ j → j < xs.length → xs[j]? = some 0), ⟨xs.length, ?_⟩, ?_⟩
  · exact ci ⟨xs.length, _, rfl, ⟨rfl, rfl, rfl, trivial⟩, rfl, Nat.le_refl _, fun j h1 h2 => by omega⟩
  rintro m s ⟨i, T, rfl, hT, hm, hi, hz⟩
  obtain ⟨J, rfl⟩ := gt_open hT
  clear hT
  obtain ⟨x, hx⟩ : ∃ x, 0 < i → xs[i - 1]? = some x := by
    by_cases hp : 0 < i
    · exact ⟨xs[i - 1]'(by omega), fun _ => List.getElem?_eq_getElem _⟩
    · exact ⟨0, fun h => absurd h hp⟩
  refine ⟨fun hgt => ⟨⟨by omega, by omega⟩, ⟨⟨by omega, by omega⟩, len_map_le (by omega)⟩, _, ld (at_map (hx (by omega))) (by show _ * 1 = i - 1; omega), fun h0 => ?loop, fun h0 => ?_⟩, fun hle => ?_⟩
  case loop =>
    refine ⟨⟨by omega, by omega⟩, ?_⟩
    have e1 : (i : Int) - 1 = ((i - 1 : Nat) : Int) := by omega
    rw [e1]
    exact ⟨i - 1, by omega, ci ⟨i - 1, _, rfl, ⟨rfl, rfl, rfl, trivial⟩, rfl, by omega, fun j h1 h2 => by
      by_cases hj : j = i - 1
      · subst hj; rw [hx (by omega), h0]
      · exact hz j (by omega) h2⟩⟩
  all_goals
    have ht : i = 0 ∨ ∃ x, xs[i - 1]? = some x ∧ x ≠ 0 := by
      first
        | exact .inl (by omega)
        | exact .inr ⟨x, hx (by omega), h0⟩
    have hti : trimL xs = xs.take i := trim_is hi hz ht
    have hli : (xs.take i).length = i := by simp; omega
    rw [hti]
    refine ⟨by omega, part0 ⟨[], rfl, ?_⟩⟩
    refine ⟨by rw [List.length_map]; show _ = _ * 1; omega, ⟨by omega, by omega⟩, fun _ => rfl, (xs.take i).map pn, ?_, ?_⟩
    · rw [List.map_take]; show List.take ((_ - 0) * 1) (List.drop (0 * 1) _) = _; simp
    have hpn : pones ((xs.take i).map pn) = true := pones_pn _
    refine ⟨⟨by rw [List.length_map, hli]; show _ = (_ - 0) * 1; omega, ⟨by show ((i : Int)).toNat - 0 ≤ 2 ^ 30; omega, hpn⟩, by decide, fun h => ?_, fun h => ⟨by omega, 3, [], _, push_cont, by decide, rfl, ?_⟩⟩⟩
    · have h0 : i = 0 := by
        have : 0 + (((i : Int)).toNat - 0) ≤ 0 := h
        omega
      subst h0
      refine ⟨3, [], _, push_get, by simp, rfl, ?_⟩
      refine endm [] (by dsimp only; omega) ?_
      exact ⟨σ.length, .inl rfl, by rw [push_set, push_get]; rfl, Nat.le_refl _, fun i b hb => by rw [push_set, List.getElem?_append_left (List.getElem?_eq_some_iff.1 hb).1]; exact hb⟩
    · refine endm [] (by dsimp only; omega) ?_
      exact ⟨σ.length + 1, .inr (by rw [List.length_append, hli]; show PV.ownu _ (0 + (((i : Int)).toNat - 0)) 1 = _; rw [show 0 + (((i : Int)).toNat - 0) = i by omega]; rfl), push_at (by simp), Nat.le_succ _, fun i b hb => by
        rw [List.getElem?_append_left (by simp; have := (List.getElem?_eq_some_iff.1 hb).1; omega), List.getElem?_append_left (List.getElem?_eq_some_iff.1 hb).1]
        exact hb⟩
theorem rtrim_ct (h125 : S 125 = none) {xs : List Int} (hl : xs.length ≤ 1000000) : Ct (ctx.plus S) 125 [pIs xs] 3 fun r => r = pIs (trimL xs) := (rtrim_cm S h125 hl).ct fun _ _ h => h.fz
end Go.PI
/- signed, size and Normal of the reference, with plain values. -/
open Go.Proofs
namespace Go.PI
open IM
set_option maxRecDepth 10000
set_option maxHeartbeats 4000000
variable (S : FuncId → Option (List AV → Heap → Option (AV × Heap)))
def negs (xs : List Int) : List Int := xs.map fun x => 0 - x
theorem signed_ct (h126 : S 126 = none) (h125 : S 125 = none) {xs : List Int} {β : Bool} (hl : xs.length ≤ 1000000) (hr : ∀ e ∈ xs, In64 (0 - e)) :
    Ct (ctx.plus S) 126 [pIs xs, .bool β] 3 fun r => r = pIs (if β then negs (trimL xs) else trimL xs) := by
  refine ct_of h126 fn126 ?_
  refine callm (rtrim_cm S h125 hl) (by omega) ?_
  rintro r σ' ⟨j, hr1, hj, -, -⟩
  obtain ⟨ys, hys⟩ : ∃ ys, trimL xs = ys := ⟨_, rfl⟩
  have hrs : ∀ e ∈ ys, In64 (0 - e) := fun e he => hr e (trim_mem xs e (by rw [hys]; exact he))
  have hyl : ys.length ≤ 1000000 := Nat.le_trans (by rw [← hys]; exact (trim_take xs).2.2) hl
  rw [hys] at hr1 hj ⊢
  have hng : ∀ {i : Nat} {e : Int}, ys[i]? = some e → (negs (ys.take i) ++ ys.drop i)[i]? = some e ∧ pspl ((negs (ys.take i) ++ ys.drop i).map pn) i [pn (0 - e)] = (negs (ys.take (i + 1)) ++ ys.drop (i + 1)).map pn := fun {i e} he => by
    have hi := (List.getElem?_eq_some_iff.1 he).1
    have h1 : (negs (ys.take i)).length = i := by simp [negs]; omega
    refine ⟨by rw [List.getElem?_append_right (by omega), h1, Nat.sub_self, List.getElem?_drop]; exact he, ?_⟩
    rw [drop_of_get he, take_snoc he]
    unfold pspl
    rw [List.map_append, List.take_left' (by rw [List.length_map, h1]), List.drop_append, List.length_map, h1]
    simp [negs]
    omega
  refine ⟨fun m s => ∃ (i : Nat) (σ : List StB) (T : List PV), s = ⟨T, σ, 0 + 3⟩ ∧ Gt T 27 [(1, .bool β), (5, r), (6, pn i)] ∧ m = ys.length - i ∧ i ≤ ys.length ∧ (β = false → i = 0) ∧ σ[j]? = some (.live 3 ((negs (ys.take i) ++ ys.drop i).map pn)), ⟨ys.length, ?_⟩, ?_⟩
  · exact ci ⟨0, _, _, rfl, ⟨rfl, rfl, rfl, rfl, trivial⟩, rfl, Nat.zero_le _, fun _ => rfl, hj⟩
  clear hj
  rintro _ s ⟨i, σ, T, rfl, hT, rfl, hi, hβ, hj⟩
  obtain ⟨J, rfl⟩ := gt_open hT
  clear hT
  have hlen : ((negs (ys.take i) ++ ys.drop i).map pn).length = ys.length := by simp [negs]; omega
  have fin : (β = false ∨ i = ys.length) → (negs (ys.take i) ++ ys.drop i) = if β then negs ys else ys := fun h => by
    cases β with
    | false => rw [hβ rfl]; rfl
    | true =>
      have : i = ys.length := h.resolve_left (by simp)
      rw [this, List.take_length, List.drop_length, List.append_nil]
      rfl
  have hfz : (β = false ∨ i = ys.length) → ∀ v, (v = r) → EndK σ v fun r => r = pIs (if β then negs ys else ys) := fun h v hv => by
    have hl2 : (if β then negs ys else ys).length = ys.length := by split <;> simp [negs]
    have hq : PV.lst ys.length ((negs (ys.take i) ++ ys.drop i).map pn) = pIs (if β then negs ys else ys) := by rw [fin h, pIs, hl2]
    rcases hr1 with rfl | rfl
    · subst hv
      exact ⟨⟨[], 3, _, _, contOf_live hj, ⟨by rw [hlen]; omega, Nat.le_refl _⟩, by rw [List.drop_zero, List.take_of_length_le (by rw [hlen]; omega)], hq⟩⟩
    · subst hv
      exact ⟨⟨[], 3, _, _, contOf_live hj, ⟨by rw [hlen]; omega, fun _ => rfl⟩, by rw [List.take_of_length_le (by rw [hlen]; omega)], hq⟩⟩
  rcases hr1 with rfl | rfl
  all_goals
    cases β with
    | false =>
      refine ⟨fun hlt => ?_, fun hge => ?_⟩
      all_goals exact hfz (.inl rfl) _ rfl
    | true =>
      refine ⟨fun hlt => ?_, fun hge => ?_⟩
      · obtain ⟨e, he⟩ : ∃ e, ys[i]? = some e := ⟨ys[i]'(by omega), List.getElem?_eq_getElem _⟩
        obtain ⟨q1, q2⟩ := hng he
        refine ⟨⟨by omega, by omega⟩, pn e, load_k rfl rfl (contOf_live hj) (at_map q1) (by show 0 + (_ : Int).toNat * 1 = i; omega), hrs e (List.mem_of_getElem? he), ⟨by omega, by omega⟩, ?_⟩
        refine ⟨_, _, hj, ⟨rfl, by rw [hlen]; show 0 + (_ : Int).toNat * 1 + 1 ≤ _; omega, rfl⟩, (negs (ys.take (i + 1)) ++ ys.drop (i + 1)).map pn, (by rw [show 0 + ((i : Int)).toNat * t3.size = i by show 0 + ((i : Int)).toNat * 1 = i; omega]; exact q2), _, rfl, ?_⟩
        refine ⟨⟨by omega, by omega⟩, ?_⟩
        refine ⟨ys.length - (i + 1), by omega, ci ⟨i + 1, _, _, rfl, ⟨rfl, rfl, rfl, rfl, trivial⟩, rfl, by omega, (fun h => by cases h), ?_⟩⟩
        rw [List.getElem?_set_self (List.getElem?_eq_some_iff.1 hj).1]
      · exact hfz (.inr (by omega)) _ rfl
theorem rngv_ct (h143 : S 143 = none) {X : Int} (hl : (digits X).length ≤ 1000000) : Ct (ctx.plus S) 143 [pI X] 0 fun r => r = .bool (decide (X < 0)) := by
  intro H W avs hw hr hn
  cases hr with
  | cons h1 hr =>
    cases hr
    refine (rnegative_run S h143 (sl_rel h1).1 hl (nrm_digits X)).mono ?_
    rintro _ _ ⟨rfl, rfl⟩
    rw [val_digits]
    exact ⟨_, rfl, .bool _, KpH.refl _ _⟩
theorem rsize_ct (hR : OldR S) {X : Int} (hl : (digits X).length ≤ 1000000) : Ct (ctx.plus S) 142 [pI X] 5 fun r => r = pI X.natAbs := by
  refine ct_of hR.h142 fn142 ?_
  refine callq rfl (rngv_ct S hR.h143 hl) (by omega) ?_
  rintro _ rfl
  have hs := (nrm_digits X).sml'
  refine callq rfl (signed_ct S hR.h126 hR.h125 hl fun e he => by have := hs e he; unfold In64; omega) (by omega) ?_
  rintro _ rfl
  refine endq rfl ?_
  rw [trim_of_top (nrm_digits X).2]
  have e1 := negd X
  rcases Decidable.em (X < 0) with h | h
  · rw [decide_eq_true h, if_pos rfl]
    show pIs (negs (digits X)) = pIs (digits _)
    congr 1
    rw [show (X.natAbs : Int) = -X by omega, ← e1]
    unfold negs
    apply List.map_congr_left
    intro a _
    omega
  · rw [decide_eq_false h]
    show pIs (digits X) = pIs (digits _)
    rw [show (X.natAbs : Int) = X by omega]
theorem rnorm_ct (hR : OldR S) {xs : List Int} {X : Int} (hx : Rw xs X) : Ct (ctx.plus S) 82 [pIs xs] 1000 fun r => r = pI X := by
  intro H W avs hw hr hn
  have hl := hx.len
  cases hr with
  | cons h1 hr =>
    cases hr
    refine (rnormal_run S hR.h82 hR.h124 hR.h125 hR.h126 (by omega) (sl_rel h1).1 (by omega) hx.in64).mono ?_
    rw [hx.val]
    rintro r H' ⟨hM, hm⟩
    exact ⟨_, rfl, rel_mine hw hM, mine_kp hM (by omega)⟩
theorem less_ct (hR : OldR S) {X Y : Int} (hX : 0 ≤ X) (hY : 0 ≤ Y) (lx : (digits X).length ≤ 1000) (ly : (digits Y).length ≤ 1000) : Ct (ctx.plus S) 168 [pI X, pI Y] 0 fun r => r = .bool (decide (X < Y)) := by
  intro H W avs hw hr hn
  cases hr with
  | cons h1 hr => cases hr with
    | cons h2 hr =>
      cases hr
      refine (less_run S hR (sl_rel h1).1 (sl_rel h2).1 lx ly (dig_digits hX) (dig_digits hY) (nrm_digits X).2 (nrm_digits Y).2).mono ?_
      rw [val_digits, val_digits]
      rintro _ _ ⟨rfl, rfl⟩
      exact ⟨_, rfl, .bool _, KpH.refl _ _⟩
theorem rmuls_ct (hR : OldR S) {xs ys : List Int} {X Y : Int} (hx : Rw xs X) (hy : Rw ys Y) (lx : xs.length ≤ 20) (ly : ys.length ≤ 20) (lxy : (digits X).length + (digits Y).length ≤ 20) : Ct (ctx.plus S) 62 [pIs xs, pIs ys] 20000 fun r => r = pI (X * Y) := by
  intro H W avs hw hr hl
  cases hr with
  | cons h1 hr => cases hr with
    | cons h2 hr =>
      cases hr
      refine (rmul_run S hR hl ⟨(sl_rel h1).1, hx.in64, lx, hx.val, by omega⟩ ⟨(sl_rel h2).1, hy.in64, ly, hy.val, by omega⟩ lxy).mono ?_
      rintro r H' ⟨hM, hm⟩
      exact ⟨_, rfl, rel_mine hw hM, mine_kp hM (by omega)⟩
end Go.PI
/- quotient, compare, Clone, with plain values. -/
open Go.Proofs
namespace Go.PI
open IM
set_option maxRecDepth 10000
set_option maxHeartbeats 4000000
theorem rel_nw {H H' : Heap} {W : Nat → Prop} {xs : List Int} {a : AV} (hw : ∀ b, W b → b < H.n) (h : Nw H a xs H') : RelC H' W (pIs xs) a := by
  rcases h with ⟨rfl, rfl, -⟩ | h
  · exact .lnil
  · exact rel_mine hw h
variable (S : FuncId → Option (List AV → Heap → Option (AV × Heap)))
theorem clone_ct (h164 : S 164 = none) {xs : List Int} (hl : xs.length ≤ 1000000) : Ct (ctx.plus S) 164 [pIs xs] 8 fun r => r = pIs xs := by
  intro H W avs hw hr hn
  cases hr with
  | cons h1 hr =>
    cases hr
    refine (clone_new S h164 (by omega) (sl_rel h1).1 hl).mono ?_
    rintro r H' ⟨hM, k⟩
    exact ⟨_, rfl, rel_nw hw hM, kp_of k⟩
theorem cmp_ct (hS : OldI S) {X Y : Int} (lx : (digits X).length ≤ 1000000) (ly : (digits Y).length ≤ 1000000) : Ct (ctx.plus S) 188 [pI X, pI Y] 20 fun r => r = pn (cmpI X Y) := by
  intro H W avs hw hr hn
  cases hr with
  | cons h1 hr => cases hr with
    | cons h2 hr =>
      cases hr
      refine (compare_run S hS.h188 hS.o.h183 hS.h203 hS.h201 hS.h204 hS.h210 (by omega) (sl_rel h1).1 (sl_rel h2).1 lx ly (nrm_digits X) (nrm_digits Y)).mono ?_
      rintro r H' ⟨rfl, k⟩
      rw [val_digits, val_digits]
      exact ⟨_, rfl, .int _ _, kp_of (k.le (by omega))⟩
theorem quot_ct (hS : OldI S) {X Y : Int} (lx : (digits X).length ≤ 900000) (ly : (digits Y).length ≤ 900000) (hX : 0 ≤ X) (hY : 0 < Y) : Ct (ctx.plus S) 191 [pI X, pI Y] 100 fun r => r = .tup [pI (X / Y), pI (X % Y)] := by
  intro H W avs hw hr hn
  cases hr with
  | cons h1 hr => cases hr with
    | cons h2 hr =>
      cases hr
      have nx := nrm_digits X
      have ny := nrm_digits Y
      have dx := nrm_pos nx (by rw [val_digits]; exact hX)
      have dy := nrm_pos ny (by rw [val_digits]; omega)
      have hne : digits Y ≠ [] := fun h => by have := digits_nil.1 h; omega
      refine (quotient_new S hS (by omega) (sl_rel h1).1 (sl_rel h2).1 (by omega) (by omega) dx nx.2 dy ny.2 hne).mono ?_
      rintro r H' ⟨q, w, rfl, hq, hw', k⟩
      rw [val_digits, val_digits] at hq hw'
      exact ⟨_, rfl, .tup (.cons (rel_nw hw hq) (.cons (rel_nw hw hw') .nil)), kp_of (k.le (by omega))⟩
end Go.PI
/- leading, mixed. -/
open Go.Proofs
namespace Go.PI
open IM
theorem fn205 : ctx.fn 205 = some c205 := by kernel_rfl
theorem fn190 : ctx.fn 190 = some c190 := by kernel_rfl
set_option maxRecDepth 10000
set_option maxHeartbeats 4000000
variable (S : FuncId → Option (List AV → Heap → Option (AV × Heap)))
theorem min_two {C : Ctx} {ρ : Operand → Option AV} {x y : Operand} {ts : Array TypeId} {m n : Nat} {a : Int} (hx : ρ x = some (iv a)) (hy : ρ y = some (iv n)) (ha : a = m) : pureE C ρ (.call { callee := .builtin .min, args := #[x, y], argTypes := ts }) = some (iv (min m n : Nat)) := by
  subst ha
  simp only [pureE, opds, hx, hy, builtinP, foldMinMax]
  simp
  by_cases h : n < m
  · rw [if_pos (by omega)]; omega
  · rw [if_neg (by omega)]; omega
theorem slice_low {C : Ctx} (hT : C.ty = tget) {ρ : Operand → Option AV} {x y : Operand} {H : Heap} {v : AV} {xs : List Int} {k : Nat} (hx : ρ x = some v) (hy : ρ y = some (iv k)) (h : Sl H v xs) (hc : Cp v) (hne : xs ≠ []) (hk : k ≤ xs.length) :
    ∃ r, pureE C ρ (.slice 22 x (some y) none none) = some r ∧ Sl H r (xs.drop k) := by
  have key : ∀ {b o l : Nat}, l = xs.length → (∃ rw ty cs, H.get b = .cells rw ty cs ∧ o + l ≤ cs.length ∧ (cs.drop o).take l = ints xs) → ∃ rw ty cs, H.get b = .cells rw ty cs ∧ (o + k) + (l - k) ≤ cs.length ∧ (cs.drop (o + k)).take (l - k) = ints (xs.drop k) := by
    rintro b o l rfl ⟨rw, ty, cs, h1, h2, h3⟩
    refine ⟨rw, ty, cs, h1, by omega, ?_⟩
    rw [← ints_drop, ← h3, List.drop_take, List.drop_drop]
  have hkk : (0 : Int) ≤ (k : Int) ∧ (k : Int) ≤ (xs.length : Int) := by omega
  unfold Sl at h
  split at h
  · exact absurd h hne
  · exact absurd h hne
  · rename_i b o l c
    obtain ⟨rfl, h2⟩ := h
    have hc : xs.length ≤ c := hc
    refine ⟨.sl b (if c = k then o else o + k) (xs.length - k) (c - k), ?_, ?_⟩
    · simp only [pureE, hx, hy, ty22 hT, t22, ty3 hT, bound, hkk, and_self, if_true, Int.toNat_natCast]
      simp [t3]
    · by_cases hck : c = k
      · have hl : xs.length = k := by omega
        rw [if_pos hck]
        refine ⟨by simp, ?_⟩
        obtain ⟨rw, ty, cs, q1, q2, q3⟩ := h2
        refine ⟨rw, ty, cs, q1, by omega, ?_⟩
        rw [hl, Nat.sub_self, List.take_zero, List.drop_of_length_le (by omega)]; rfl
      · rw [if_neg hck]
        exact ⟨by simp, key rfl h2⟩
  · rename_i b o l e
    obtain ⟨rfl, rfl, h2⟩ := h
    refine ⟨.slu b (o + k) (xs.length - k) 1, ?_, rfl, by simp, key rfl h2⟩
    simp only [pureE, hx, hy, ty22 hT, t22, ty3 hT, bound, hkk, and_self, if_true, Int.toNat_natCast]
    simp [t3]
  · exact h.elim
theorem leading_run (hS : OldI S) {H : Heap} {x : AV} {xs : List Int} {N : Nat} (hn : H.n + 20 < lim) (hx : Sl H x xs) (hc : Cp x) (hN : 2 ≤ N) (hl : xs.length ≤ N) (hNl : N ≤ 1000000) (dx : Dig xs) (hne : xs ≠ []) :
    Cl (ctx.plus S) 205 [x, iv N] H fun r H' => r = iv (val (xs.drop (min (N - 2) xs.length))) ∧ Kp H H' 10 := by
  refine cl_of hS.h205 fn205 ?_
  have hT : (ctx.plus S).ty = tget := rfl
  refine ⟨⟨by omega, by omega⟩, ?_⟩
  refine ⟨_, len_sl hT (v := x) rfl hx, ?_⟩
  refine ⟨_, min_two (m := N - 2) (n := xs.length) rfl rfl (by omega), ?_⟩
  obtain ⟨r, hr, hrs⟩ := slice_low hT (C := ctx.plus S) (ρ := fun o => match o with | .tmp 5 => some x | _ => some (iv (min (N - 2) xs.length : Nat))) (x := .tmp 5) (y := .tmp 10) (k := min (N - 2) xs.length) rfl rfl hx hc hne (by omega)
  refine ⟨r, hr, ?_⟩
  exact vsmall_run S hS.h192 hS.h204 hS.h210 (by omega) hrs (by simp; omega) (small_in (fun z hz => by have := dx z (List.mem_of_mem_drop hz); omega) (by simp; omega))
theorem lead_val {ys : List Int} {N : Nat} (dy : Dig ys) : ∃ t, 0 ≤ t ∧ t < pw (N - 2) ∧ val ys = t + pw (N - 2) * val (ys.drop (min (N - 2) ys.length)) := by
  by_cases h : N - 2 ≤ ys.length
  · rw [Nat.min_eq_left h]
    have dt : Dig (ys.take (N - 2)) := fun z hz => dy z (List.mem_of_mem_take hz)
    have hv := dt.val
    rw [show (ys.take (N - 2)).length = N - 2 by simp; omega] at hv
    refine ⟨val (ys.take (N - 2)), hv.1, hv.2, ?_⟩
    conv => lhs; rw [← List.take_append_drop (N - 2) ys, val_append]
    rw [show (ys.take (N - 2)).length = N - 2 by simp; omega]
  · rw [Nat.min_eq_right (by omega), List.drop_of_length_le (Nat.le_refl _)]
    have hv := dy.val
    have := pw_mono (show ys.length ≤ N - 2 by omega)
    exact ⟨val ys, hv.1, by omega, by simp [val]⟩
theorem lead_small {ys : List Int} {N : Nat} (dy : Dig ys) (hl : ys.length ≤ N) (hN : 2 ≤ N) : 0 ≤ val (ys.drop (min (N - 2) ys.length)) ∧ val (ys.drop (min (N - 2) ys.length)) ≤ 10000000000000000 := by
  have dt : Dig (ys.drop (min (N - 2) ys.length)) := fun z hz => dy z (List.mem_of_mem_drop hz)
  have hv := dt.val
  have := pw_mono (show (ys.drop (min (N - 2) ys.length)).length ≤ 2 by simp; omega)
  have : pw 2 = 10000000000000000 := by decide
  omega
theorem ex54 (T : List AV) (h : T.length = 54) : T = [T.getD 0 undefA, T.getD 1 undefA, T.getD 2 undefA, T.getD 3 undefA, T.getD 4 undefA, T.getD 5 undefA, T.getD 6 undefA, T.getD 7 undefA, T.getD 8 undefA, T.getD 9 undefA, T.getD 10 undefA, T.getD 11 undefA, T.getD 12 undefA, T.getD 13 undefA, T.getD 14 undefA, T.getD 15 undefA, T.getD 16 undefA, T.getD 17 undefA, T.getD 18 undefA, T.getD 19 undefA, T.getD 20 undefA, T.getD 21 undefA, T.getD 22 undefA, T.getD 23 undefA, T.getD 24 undefA, T.getD 25 undefA, T.getD 26 undefA, T.getD 27 undefA, T.getD 28 undefA, T.getD 29 undefA, T.getD 30 undefA, T.getD 31 undefA, T.getD 32 undefA, T.getD 33 undefA, T.getD 34 undefA, T.getD 35 undefA, T.getD 36 undefA, T.getD 37 undefA, T.getD 38 undefA, T.getD 39 undefA, T.getD 40 undefA, T.getD 41 undefA, T.getD 42 undefA, T.getD 43 undefA, T.getD 44 undefA, T.getD 45 undefA, T.getD 46 undefA, T.getD 47 undefA, T.getD 48 undefA, T.getD 49 undefA, T.getD 50 undefA, T.getD 51 undefA, T.getD 52 undefA, T.getD 53 undefA] := by
  have := expand T
  rw [h] at this
  exact this
theorem mixed_run (hS : OldI S) {H : Heap} {x y : AV} {a b : Int} {xs ys : List Int} (hn : H.n + 20 < lim) (hx : Sl H x xs) (hy : Sl H y ys) (hxl : xs.length ≤ 1000000) (hyl : ys.length ≤ 1000000)
    (hxs : Sml xs) (hys : Sml ys) (ha : -100000000 ≤ a ∧ a ≤ 100000000) (hb : -100000000 ≤ b ∧ b ≤ 100000000) : Cl (ctx.plus S) 190 [iv a, x, iv b, y] H fun r H' => Mine H H.n r (digits (a * val xs + b * val ys)) H' ∧ H'.n ≤ H.n + 8 := by
  refine cl_of hS.h190 fn190 ?_
  have hT : (ctx.plus S).ty = tget := rfl
  obtain ⟨M, hM⟩ : ∃ M, M = max xs.length ys.length := ⟨_, rfl⟩
  refine ⟨_, len_sl hT (v := x) rfl hx, ?_⟩
  refine ⟨_, len_sl hT (v := y) rfl hy, ?_⟩
  refine ⟨_, max_two (m := xs.length) (n := ys.length) rfl rfl, ?_⟩
  rw [← hM]
  refine ⟨⟨by omega, by omega⟩, ?_⟩
  obtain ⟨N, hN⟩ : ∃ N, N = M + 1 := ⟨_, rfl⟩
  rw [show (M : Int) + 1 = (N : Int) by omega]
  refine ⟨by omega, ⟨by omega, by omega, by omega⟩, ?_⟩
  rw [show ((N : Int)).toNat = N by omega, show (List.replicate N t3.zero.cells).flatten = ints (List.replicate N 0) from ints_zeros _]
  have hp := Heap.get_push (H := H) (b := .cells true 3 (ints (List.replicate N 0))) (by omega)
  have hpn : (H.push (.cells true 3 (ints (List.replicate N 0)))).n = H.n + 1 := rfl
  generalize H.push (.cells true 3 (ints (List.replicate N 0))) = H1 at hp hpn ⊢
  have hk1 : ∀ A, A < H.n → H1.get A = H.get A := fun A hA => by rw [hp, if_neg (by omega)]
  have hb1 : H1.get H.n = .cells true 3 (ints (List.replicate N 0)) := by rw [hp, if_pos rfl]
  refine ⟨_, len_sl hT (v := x) rfl hx, ?_⟩
  refine ⟨fun m s => ∃ (i : Nat) (n : Int) (H' : Heap) (T : List AV),
    s = ⟨T, H', []⟩ ∧ T.length = 54 ∧ T.getD 0 undefA = iv a ∧ T.getD 1 undefA = x ∧ T.getD 2 undefA = iv b ∧ T.getD 3 undefA = y ∧ T.getD 9 undefA = .sl H.n 0 N N ∧ T.getD 21 undefA = x ∧ T.getD 22 undefA = iv xs.length ∧ T.getD 23 undefA = iv n ∧ m = xs.length - i ∧ n = i ∧ i ≤ xs.length ∧ Upd H1 H.n (.cells true 3 (ints (mulL a (xs.take i) ++ List.replicate (N - i) 0))) H', ⟨xs.length, ?_⟩, ?_⟩
  · exact ⟨0, _, H1, _, rfl, rfl, rfl, rfl, rfl, rfl, rfl, rfl, rfl, rfl, rfl, rfl, Nat.zero_le _, Upd.refl (by simpa [mulL] using hb1)⟩
  · rintro m s ⟨i, n, H', T, rfl, hTl, h0t, h1t, h2t, h3t, h9t, h21t, h22t, h23t, hm', rfl, hi, hV⟩
    obtain ⟨J, rfl⟩ : ∃ J : Nat → AV, T = [iv a, x, iv b, y, J 4, J 5, J 6, J 7, J 8, .sl H.n 0 N N, J 10, J 11, J 12, J 13, J 14, J 15, J 16, J 17, J 18, J 19, J 20, x, iv xs.length, iv i, J 24, J 25, J 26, J 27, J 28, J 29, J 30, J 31, J 32, J 33, J 34, J 35, J 36, J 37, J 38, J 39, J 40, J 41, J 42, J 43, J 44, J 45, J 46, J 47, J 48, J 49, J 50, J 51, J 52, J 53] := ⟨fun i => T.getD i undefA, (ex54 T hTl).trans (by rw [h0t, h1t, h2t, h3t, h9t, h21t, h22t, h23t])⟩
    clear hTl h0t h1t h2t h3t h9t h21t h22t h23t
    have hk : ∀ A, A < H.n → H'.get A = H.get A := fun A hA => by rw [hV.other A (by omega)]; exact hk1 A hA
    have hn' : H'.n = H.n + 1 := by rw [hV.n]; exact hpn
    have hZl : (mulL a (xs.take i) ++ List.replicate (N - i) 0).length = N := by simp [mulL]; omega
    have hOw : Ow H' (.sl H.n 0 N N) H.n (mulL a (xs.take i) ++ List.replicate (N - i) 0) N := ⟨hV.at_, by omega, .inl ⟨N, rfl, by omega, by omega⟩⟩
    refine ⟨fun hlt => ?_, fun hge => ?_⟩
    · obtain ⟨e, he⟩ : ∃ e, xs[i]? = some e := ⟨xs[i]'(by omega), List.getElem?_eq_getElem _⟩
      have heB := hxs e (List.mem_of_getElem? he)
      have hfe := mul_bd (a := a) (b := e) (m := 100000000) (n := 100000000) (by omega) (by omega)
      refine ⟨_, idx_sl hT (v := x) (n := i) rfl rfl (hx.mono hk) rfl (by omega), ?_⟩
      refine ⟨_, load_sl hT (hx.mono hk) he, ?_⟩
      refine ⟨⟨by omega, by omega⟩, ?_⟩
      refine ⟨_, idx_sl hT (v := .sl H.n 0 N N) (n := i) rfl rfl hOw.sl rfl (by rw [List.take_of_length_le (by omega)]; omega), ?_⟩
      refine ⟨_, store_ow hT hOw (by omega), ?_⟩
      refine ⟨⟨by omega, by omega⟩, ?_⟩
      refine ⟨xs.length - (i + 1), by omega, i + 1, _, _, _, rfl, rfl, rfl, rfl, rfl, rfl, rfl, rfl, rfl, rfl, rfl, rfl, by omega, ?_⟩
      have hset : (mulL a (xs.take i) ++ List.replicate (N - i) 0).set i (a * e) = mulL a (xs.take (i + 1)) ++ List.replicate (N - (i + 1)) 0 := by
        have hl1 : (mulL a (xs.take i)).length = i := by simp [mulL]; omega
        rw [take_snoc he, mulL_snoc, List.set_append_right _ _ (by omega), hl1, Nat.sub_self, show N - i = (N - (i + 1)) + 1 by omega, List.replicate_succ]
        simp
      rw [← hset]
      exact hV.trans (upd_set (by omega) (by omega))
    · have hiy : i = xs.length := by omega
      subst hiy
      rw [List.take_length] at hV hOw hZl
      obtain ⟨Z, hZ⟩ : ∃ Z, Z = mulL a xs ++ List.replicate (N - xs.length) (0 : Int) := ⟨_, rfl⟩
      rw [← hZ] at hV hOw hZl
      have hZv : val Z = a * val xs := by rw [hZ, val_append, mulL_val, val_zeros]; omega
      have hZb : ∀ z ∈ Z, -10000000000000000 ≤ z ∧ z ≤ 10000000000000000 := by
        intro z hz
        rw [hZ] at hz
        rcases List.mem_append.1 hz with h | h
        · obtain ⟨e, he, rfl⟩ := List.mem_map.1 h
          have heB := hxs e he
          have := mul_bd (a := a) (b := e) (m := 100000000) (n := 100000000) (by omega) (by omega)
          omega
        · have := (List.mem_replicate.1 h).2; omega
      clear hZ
      refine ⟨_, len_sl hT (v := y) rfl hy, ?_⟩
      refine ⟨fun m s => ∃ (i : Nat) (n : Int) (H2 : Heap) (T : List AV),
        s = ⟨T, H2, []⟩ ∧ T.length = 54 ∧ T.getD 2 undefA = iv b ∧ T.getD 9 undefA = .sl H.n 0 N N ∧ T.getD 35 undefA = y ∧ T.getD 36 undefA = iv ys.length ∧ T.getD 37 undefA = iv n ∧ m = ys.length - i ∧ n = i ∧ i ≤ ys.length ∧ Upd H' H.n (.cells true 3 (ints (addL b Z (ys.take i)))) H2, ⟨ys.length, ?_⟩, ?_⟩
      · exact ⟨0, _, H', _, rfl, rfl, rfl, rfl, rfl, rfl, rfl, rfl, rfl, Nat.zero_le _, Upd.refl (by rw [List.take_zero, addL_nil]; exact hV.at_)⟩
      · rintro m s ⟨i, n, H2, T, rfl, hTl, h2t, h9t, h35t, h36t, h37t, hm', rfl, hi, hW⟩
        obtain ⟨J', rfl⟩ : ∃ J : Nat → AV, T = [J 0, J 1, iv b, J 3, J 4, J 5, J 6, J 7, J 8, .sl H.n 0 N N, J 10, J 11, J 12, J 13, J 14, J 15, J 16, J 17, J 18, J 19, J 20, J 21, J 22, J 23, J 24, J 25, J 26, J 27, J 28, J 29, J 30, J 31, J 32, J 33, J 34, y, iv ys.length, iv i, J 38, J 39, J 40, J 41, J 42, J 43, J 44, J 45, J 46, J 47, J 48, J 49, J 50, J 51, J 52, J 53] := ⟨fun i => T.getD i undefA, (ex54 T hTl).trans (by rw [h2t, h9t, h35t, h36t, h37t])⟩
        clear hTl h2t h9t h35t h36t h37t
        have hk2 : ∀ A, A < H.n → H2.get A = H.get A := fun A hA => by rw [hW.other A (by omega)]; exact hk A hA
        have hn2 : H2.n = H.n + 1 := by rw [hW.n]; exact hn'
        have hOw2 : Ow H2 (.sl H.n 0 N N) H.n (addL b Z (ys.take i)) N := ⟨hW.at_, by rw [addL_length]; omega, .inl ⟨N, rfl, by omega, by rw [addL_length]; omega⟩⟩
        refine ⟨fun hlt => ?_, fun hge2 => ?_⟩
        · obtain ⟨e, he⟩ : ∃ e, ys[i]? = some e := ⟨ys[i]'(by omega), List.getElem?_eq_getElem _⟩
          obtain ⟨z, hz⟩ : ∃ z, Z[i]? = some z := ⟨Z[i]'(by omega), List.getElem?_eq_getElem _⟩
          have heB := hys e (List.mem_of_getElem? he)
          have hzB := hZb z (List.mem_of_getElem? hz)
          have hfe := mul_bd (a := b) (b := e) (m := 100000000) (n := 100000000) (by omega) (by omega)
          have hgz : (addL b Z (ys.take i))[i]? = some z := addL_get b i Z (ys.take i) z hz (by simp; omega)
          refine ⟨_, idx_sl hT (v := y) (n := i) rfl rfl (hy.mono hk2) rfl (by omega), ?_⟩
          refine ⟨_, load_sl hT (hy.mono hk2) he, ?_⟩
          refine ⟨_, idx_sl hT (v := .sl H.n 0 N N) (n := i) rfl rfl hOw2.sl rfl (by simp [addL_length]; omega), ?_⟩
          refine ⟨_, load_sl hT hOw2.sl (x := z) (by rw [List.getElem?_take, if_pos (by omega)]; exact hgz), ?_⟩
          refine ⟨⟨by omega, by omega⟩, ?_⟩
          refine ⟨⟨by omega, by omega⟩, ?_⟩
          refine ⟨_, idx_sl hT (v := .sl H.n 0 N N) (n := i) rfl rfl hOw2.sl rfl (by simp [addL_length]; omega), ?_⟩
          refine ⟨_, store_ow hT hOw2 (by omega), ?_⟩
          refine ⟨⟨by omega, by omega⟩, ?_⟩
          refine ⟨ys.length - (i + 1), by omega, i + 1, _, _, _, rfl, rfl, rfl, rfl, rfl, rfl, rfl, rfl, rfl, by omega, ?_⟩
          rw [take_snoc he, addL_snoc b (ys.take i) Z e z (by rw [List.length_take, Nat.min_eq_left (by omega)]; exact hz), List.length_take, Nat.min_eq_left (by omega)]
          exact hW.trans (upd_set (by omega) (by omega))
        · have hiy : i = ys.length := by omega
          subst hiy
          rw [List.take_length] at hW hOw2
          have hM2 : Mine H H.n (.sl H.n 0 N N) ((addL b Z ys).take N) H2 := Mine.fresh_refl (by omega) hk2 hOw2 (Nat.le_refl _)
          rw [List.take_of_length_le (by rw [addL_length]; omega)] at hM2
          refine (settle_old S hS.o (by omega) (by rw [addL_length]; omega) hM2 ?_).mono ?_
          · have key : ∀ (zs us : List Int), (∀ z ∈ zs, -10000000000000000 ≤ z ∧ z ≤ 10000000000000000) → Sml us → ∀ w ∈ addL b zs us, -20000000000000000 ≤ w ∧ w ≤ 20000000000000000 := by
              intro zs
              induction zs with
              | nil => intro us _ _ w hw; cases us <;> cases hw
              | cons z zs ih =>
                intro us hz hu w hw
                cases us with
                | nil =>
                  rw [addL_nil] at hw
                  have := hz w hw
                  omega
                | cons u us =>
                  simp only [addL, List.mem_cons] at hw
                  rcases hw with rfl | hw
                  · have h1 := hz z (by simp)
                    have h2 := hu u (by simp)
                    have := mul_bd (a := b) (b := u) (m := 100000000) (n := 100000000) (by omega) (by omega)
                    omega
                  · exact ih us (fun a ha => hz a (by simp [ha])) (fun a ha => hu a (by simp [ha])) w hw
            intro w hw
            have := key Z ys hZb hys w hw
            exact ⟨by omega, by omega⟩
          · rintro r H3 ⟨h1, h2⟩
            rw [addL_val b Z ys (by omega), hZv] at h1
            have h3 : Mine H H.n r (digits (a * val xs + b * val ys)) H3 ∧ H3.n ≤ H.n + 8 := ⟨h1, by omega⟩
            exact h3
end Go.PI
