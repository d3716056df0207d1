/- Own work of the verifier: PvPur3. -/
import Derived.Test.YtefajaiioljjoaaOwAL
set_option linter.all false
set_option exponentiation.threshold 3000
set_option linter.deprecated false
/- PLAIN VALUES: what is computed of plain values is what is computed of what they stand for. -/
namespace Go.PI
variable {C : Ctx}
def PurO (C : Ctx) (T : List PV) (op : Op) (K : PV → Prop) : Prop :=
  ∃ r, K r ∧ ∀ (H : Heap) (W : Nat → Prop) (β : List Nat) (T' : List AV), (∀ x ∈ op.operands.toList, TR H W β T T' x) → ∃ v, pureE C (opd T') op = some v ∧ RelV H W β r v
theorem len_built {t : TypeId} {ts : List TypeId} {p : PV} {ps : List PV} {K : PV → Prop} (h : pbuiltK C .len (t :: ts) (p :: ps) K) : ∃ r, K r ∧ ∀ (H : Heap) (W : Nat → Prop) (β : List Nat) (as : List AV), All2 (RelV H W β) (p :: ps) as → ∃ v, builtinP C .len (t :: ts) as = some v ∧ RelV H W β r v := by
  unfold pbuiltK at h
  simp only at h
  split at h
  · rename_i ht
    split at h
    · refine ⟨_, h, fun H W β as ha => ?_⟩
      cases ha with
      | cons h1 _ =>
        have := h1.str_inv
        subst this
        exact ⟨_, by simp only [builtinP, ht], .clo (.int _ _)⟩
    · exact h.elim
  · rename_i ht
    split at h
    · refine ⟨_, h, fun H W β as ha => ?_⟩
      cases ha with
      | cons h1 _ =>
        have := h1.nils_inv
        subst this
        exact ⟨_, by simp only [builtinP, ht], .clo (.int _ _)⟩
    · rename_i n cs
      refine ⟨_, h, fun H W β as ha => ?_⟩
      cases ha with
      | cons h1 _ =>
        have hl := h1.lst_inv
        cases hl with
        | lnil => exact ⟨_, by simp only [builtinP, ht]; rfl, .clo (.int _ _)⟩
        | lsle => exact ⟨_, by simp only [builtinP, ht]; rfl, .clo (.int _ _)⟩
        | sl => exact ⟨_, by simp only [builtinP, ht], .clo (.int _ _)⟩
        | slu => exact ⟨_, by simp only [builtinP, ht], .clo (.int _ _)⟩
    · refine ⟨_, h, fun H W β as ha => ?_⟩
      cases ha with
      | cons h1 _ =>
        obtain ⟨b, -, rfl⟩ := h1.own_inv
        exact ⟨_, by simp only [builtinP, ht], .clo (.int _ _)⟩
    · refine ⟨_, h, fun H W β as ha => ?_⟩
      cases ha with
      | cons h1 _ =>
        obtain ⟨b, -, rfl⟩ := h1.ownu_inv
        exact ⟨_, by simp only [builtinP, ht], .clo (.int _ _)⟩
    · refine ⟨_, h, fun H W β as ha => ?_⟩
      cases ha with
      | cons h1 _ =>
        obtain ⟨b, -, rfl⟩ := h1.ownq_inv
        exact ⟨_, by simp only [builtinP, ht], .clo (.int _ _)⟩
    · exact h.elim
  · rename_i ht
    refine ⟨_, h, fun H W β as ha => ?_⟩
    cases ha with
    | cons h1 _ => exact ⟨_, by simp only [builtinP, ht], .clo (.int _ _)⟩
  · exact h.elim
theorem len_notmap {ts : List TypeId} {ps : List PV} {K : PV → Prop} (h : pbuiltK C .len ts ps K) : isMap C ts = false := by
  unfold isMap
  split
  · rename_i t
    split
    · rename_i ht
      cases ps with
      | nil => exact h.elim
      | cons p ps =>
        unfold pbuiltK at h
        simp only [ht] at h
    · rfl
  · rfl
theorem built_ok {b : Builtin} {ts : List TypeId} {ps : List PV} {K : PV → Prop} (h : pbuiltK C b ts ps K) : (b = .len ∨ b = .max ∨ b = .min ∨ b = .cap) ∧ ∃ r, K r ∧ ∀ (H : Heap) (W : Nat → Prop) (β : List Nat) (as : List AV), All2 (RelV H W β) ps as → ∃ v, builtinP C b ts as = some v ∧ RelV H W β r v := by
  cases b with
  | len =>
    cases ts with
    | nil => exact h.elim
    | cons t ts => cases ps with
      | nil => exact h.elim
      | cons p ps => exact ⟨.inl rfl, len_built h⟩
  | max =>
    simp only [pbuiltK] at h
    split at h
    · rename_i m n
      refine ⟨.inr (.inl rfl), _, h, fun H W β as ha => ?_⟩
      cases ha with
      | cons h1 h2 => cases h2 with
        | cons h2 h3 => cases h3 with
          | nil =>
            have := h1.int_inv
            subst this
            have := h2.int_inv
            subst this
            refine ⟨.int .i64 (max m n), ?_, .clo (.int _ _)⟩
            have e : (if n > m then n else m) = max m n := by split <;> omega
            simp [builtinP, foldMinMax, e]
    · exact h.elim
  | min =>
    simp only [pbuiltK] at h
    split at h
    · rename_i m n
      refine ⟨.inr (.inr (.inl rfl)), _, h, fun H W β as ha => ?_⟩
      cases ha with
      | cons h1 h2 => cases h2 with
        | cons h2 h3 => cases h3 with
          | nil =>
            have := h1.int_inv
            subst this
            have := h2.int_inv
            subst this
            refine ⟨.int .i64 (min m n), ?_, .clo (.int _ _)⟩
            have e : (if n < m then n else m) = min m n := by split <;> omega
            simp [builtinP, foldMinMax, e]
    · exact h.elim
  | cap =>
    cases ts with
    | nil => exact h.elim
    | cons t ts => cases ps with
      | nil => exact h.elim
      | cons p ps =>
        simp only [pbuiltK] at h
        split at h
        · rename_i ht
          split at h
          · refine ⟨.inr (.inr (.inr rfl)), _, h, fun H W β as ha => ?_⟩
            cases ha with
            | cons h1 _ =>
              have := h1.nils_inv
              subst this
              exact ⟨_, by simp only [builtinP, ht], .clo (.int _ _)⟩
          · refine ⟨.inr (.inr (.inr rfl)), _, h, fun H W β as ha => ?_⟩
            cases ha with
            | cons h1 _ =>
              obtain ⟨b, hb, rfl⟩ := h1.own_inv
              exact ⟨_, by simp only [builtinP, ht], .clo (.int _ _)⟩
          · exact h.elim
        · exact h.elim
  | _ => exact h.elim
theorem pur_ok {T : List PV} {op : Op} {K : PV → Prop} (h : purK C T op K) : kindOf C op = .pure ∧ PurO C T op K := by
  unfold purK at h
  split at h
  · rename_i x
    obtain ⟨p, h1, h2⟩ := popdK_ok h
    exact ⟨rfl, p, h2, fun H W β T' hr => pOp_rel h1 (hr x (by simp [Op.operands]))⟩
  · rename_i x
    obtain ⟨p, h1, h2⟩ := popdK_ok h
    exact ⟨rfl, p, h2, fun H W β T' hr => pOp_rel h1 (hr x (by simp [Op.operands]))⟩
  · rename_i c a b
    obtain ⟨p, h1, h2⟩ := popdK_ok h
    split at h2
    · obtain ⟨q, h3, h4⟩ := popdK_ok h2
      refine ⟨rfl, q, h4, fun H W β T' hr => ?_⟩
      obtain ⟨v, g1, g2⟩ := pOp_rel h1 (hr c (by simp [Op.operands]))
      obtain ⟨u, g3, g4⟩ := pOp_rel h3 (hr a (by simp [Op.operands]))
      rw [g2.bool_inv] at g1
      exact ⟨u, by simp only [pureE, g1, g3], g4⟩
    · obtain ⟨q, h3, h4⟩ := popdK_ok h2
      refine ⟨rfl, q, h4, fun H W β T' hr => ?_⟩
      obtain ⟨v, g1, g2⟩ := pOp_rel h1 (hr c (by simp [Op.operands]))
      obtain ⟨u, g3, g4⟩ := pOp_rel h3 (hr b (by simp [Op.operands]))
      rw [g2.bool_inv] at g1
      exact ⟨u, by simp only [pureE, g1, g3], g4⟩
    · exact h2.elim
  · rename_i op t x y t2
    obtain ⟨p, h1, h2⟩ := popdK_ok h
    obtain ⟨q, h3, h4⟩ := popdK_ok h2
    obtain ⟨v, h5, h6⟩ := pbinK_ok h4
    obtain ⟨r, h7, h8⟩ := toPK_ok h5
    refine ⟨rfl, r, h7, fun H W β T' hr => ⟨v, ?_, h8 H W β⟩⟩
    obtain ⟨a, g1, g2⟩ := pOp_rel h1 (hr x (by simp [Op.operands]))
    obtain ⟨b, g3, g4⟩ := pOp_rel h3 (hr y (by simp [Op.operands]))
    simp only [pureE, g1, g3]
    exact h6 H W β x y a b g2 g4
  · rename_i t x
    obtain ⟨p, h1, h2⟩ := popdK_ok h
    split at h2
    · rename_i n
      refine ⟨rfl, _, h2.2, fun H W β T' hr => ?_⟩
      obtain ⟨a, g1, g2⟩ := pOp_rel h1 (hr x (by simp [Op.operands]))
      rw [g2.int_inv] at g1
      exact ⟨_, by simp only [pureE, g1, wrap64 h2.1], .clo (.int _ _)⟩
    · exact h2.elim
  · rename_i t x
    obtain ⟨p, h1, h2⟩ := popdK_ok h
    split at h2
    · refine ⟨rfl, _, h2, fun H W β T' hr => ?_⟩
      obtain ⟨a, g1, g2⟩ := pOp_rel h1 (hr x (by simp [Op.operands]))
      rw [g2.bool_inv] at g1
      exact ⟨_, by simp only [pureE, g1]; rfl, .clo (.bool _)⟩
    · refine ⟨rfl, _, h2, fun H W β T' hr => ?_⟩
      obtain ⟨a, g1, g2⟩ := pOp_rel h1 (hr x (by simp [Op.operands]))
      rw [g2.bool_inv] at g1
      exact ⟨_, by simp only [pureE, g1]; rfl, .clo (.bool _)⟩
    · exact h2.elim
  · rename_i t i
    obtain ⟨p, h1, h2⟩ := popdK_ok h
    split at h2
    · rename_i vs
      split at h2
      · rename_i hd
        have hd := of_decide_eq_true hd
        have hk := pgetK_ok h2
        refine ⟨rfl, _, hk, fun H W β T' hr => ?_⟩
        obtain ⟨a, g1, g2⟩ := pOp_rel h1 (hr t (by simp [Op.operands]))
        obtain ⟨as, rfl, g3⟩ := g2.tup_inv
        have e : vs[i]? = some (vs.getD i undefP) := by simp [List.getD, hd]
        obtain ⟨v, g4, g5⟩ := g3.get e
        exact ⟨v, by simp only [pureE, g1]; exact g4, g5⟩
      · exact h2.elim
    · exact h2.elim
  · rename_i x
    obtain ⟨p, h1, h2⟩ := popdK_ok h
    split at h2
    · refine ⟨rfl, _, h2, fun H W β T' hr => ?_⟩
      obtain ⟨a, g1, g2⟩ := pOp_rel h1 (hr x (by simp [Op.operands]))
      obtain ⟨b, hb, rfl⟩ := g2.optr_inv
      exact ⟨_, by simp only [pureE, g1], g2⟩
    · refine ⟨rfl, _, h2, fun H W β T' hr => ?_⟩
      obtain ⟨a, g1, g2⟩ := pOp_rel h1 (hr x (by simp [Op.operands]))
      obtain ⟨b, o, _, _, _, rfl, -⟩ := g2.lptr_inv
      exact ⟨_, by simp only [pureE, g1], g2⟩
    · refine ⟨rfl, _, h2, fun H W β T' hr => ?_⟩
      obtain ⟨a, g1, g2⟩ := pOp_rel h1 (hr x (by simp [Op.operands]))
      obtain ⟨b, o, _, _, _, rfl, -⟩ := g2.bptr_inv
      exact ⟨_, by simp only [pureE, g1], g2⟩
    · refine ⟨rfl, _, h2, fun H W β T' hr => ?_⟩
      obtain ⟨a, g1, g2⟩ := pOp_rel h1 (hr x (by simp [Op.operands]))
      rw [g2.fn_inv] at g1 g2
      exact ⟨_, by simp only [pureE, g1], g2⟩
    · exact h2.elim
  · rename_i s d x
    obtain ⟨p, h1, h2⟩ := popdK_ok h
    split at h2
    · rename_i hs hd
      split at h2
      · refine ⟨by simp [kindOf, isPtr, isStr, hd], _, h2, fun H W β T' hr => ?_⟩
        obtain ⟨a, g1, g2⟩ := pOp_rel h1 (hr x (by simp [Op.operands]))
        rw [g2.int_inv] at g1
        exact ⟨_, by simp only [pureE, hs, hd, g1], .clo (.int _ _)⟩
      · exact h2.elim
    · exact h2.elim
    · rename_i hns hs hd
      split at h2
      · refine ⟨?_, _, h2, fun H W β T' hr => ?_⟩
        · have hsl : isSlc C s = false := by
            unfold isSlc
            split
            · rename_i h3; rw [hs] at h3; cases h3; exact (hns _ _ _ _ rfl).elim
            · rfl
          simp [kindOf, isPtr, hsl, hd]
        obtain ⟨a, g1, g2⟩ := pOp_rel h1 (hr x (by simp [Op.operands]))
        rw [g2.str_inv] at g1
        exact ⟨_, by simp only [pureE, hs, hd, g1], .clo (.str _)⟩
      · exact h2.elim
    · exact h2.elim
  · rename_i s x f
    obtain ⟨p, h1, h2⟩ := popdK_ok h
    split at h2
    · rename_i hs
      split at h2
      · rename_i fd hf
        split at h2
        · rename_i i hi
          split at h2
          · exact h2.elim
          · rename_i hz
            have hz := of_decide_eq_false hz
            split at h2
            · refine ⟨rfl, _, h2, fun H W β T' hr => ?_⟩
              obtain ⟨a, g1, g2⟩ := pOp_rel h1 (hr x (by simp [Op.operands]))
              obtain ⟨b, hb, rfl⟩ := g2.optr_inv
              exact ⟨_, by simp only [pureE, hs, g1, hf, hi]; rw [if_neg hz], .optr _ hb⟩
            · refine ⟨rfl, _, h2.2, fun H W β T' hr => ?_⟩
              obtain ⟨a, g1, g2⟩ := pOp_rel h1 (hr x (by simp [Op.operands]))
              obtain ⟨b, o, _, _, _, rfl, q1, q2, q3, q4⟩ := g2.lptr_inv
              refine ⟨_, by simp only [pureE, hs, g1, hf, hi]; rw [if_neg hz], .clo (.lptr q1 q2 ?_ (drop_rel h2.1 q4))⟩
              have := h2.1
              simp; omega
            · refine ⟨rfl, _, h2.2, fun H W β T' hr => ?_⟩
              obtain ⟨a, g1, g2⟩ := pOp_rel h1 (hr x (by simp [Op.operands]))
              obtain ⟨b, o, _, _, _, rfl, q1, q2, q3, q4⟩ := g2.bptr_inv
              refine ⟨_, by simp only [pureE, hs, g1, hf, hi]; rw [if_neg hz], .bptr q1 q2 ?_ (drop_rel h2.1 q4)⟩
              have := h2.1
              simp; omega
            · exact h2.elim
        · exact h2.elim
      · exact h2.elim
    · exact h2.elim
  · rename_i t x f
    obtain ⟨p, h1, h2⟩ := popdK_ok h
    split at h2
    · rename_i hs
      split at h2
      · rename_i fd hf
        split at h2
        · rename_i i hi
          split at h2
          · obtain ⟨r, h3, h4⟩ := h2
            refine ⟨rfl, r, h4, fun H W β T' hr => ?_⟩
            obtain ⟨a, g1, g2⟩ := pOp_rel h1 (hr x (by simp [Op.operands]))
            obtain ⟨as, rfl, g3⟩ := g2.agg_inv
            obtain ⟨v, g4, g5⟩ := partP_ok hi (fun _ _ h => RelV.agg h) g3 h3
            exact ⟨v, by simp only [pureE, hs, g1, hf]; exact g4, g5⟩
          · exact h2.elim
        · exact h2.elim
      · exact h2.elim
    · exact h2.elim
  · rename_i t x i
    obtain ⟨p, h1, h2⟩ := popdK_ok h
    obtain ⟨q, h3, h4⟩ := popdK_ok h2
    split at h4
    · rename_i hs
      split at h4
      · rename_i ei he
        obtain ⟨r, h5, h6⟩ := pidx_ok hs rfl he h4
        refine ⟨rfl, r, h5, fun H W β T' hr => ?_⟩
        obtain ⟨a, g1, g2⟩ := pOp_rel h1 (hr x (by simp [Op.operands]))
        obtain ⟨b, g3, g4⟩ := pOp_rel h3 (hr i (by simp [Op.operands]))
        exact h6 H W β a b _ x i g1 g3 g2 g4
      · exact h4.elim
    · rename_i hs
      split at h4
      · rename_i ei he
        obtain ⟨r, h5, h6⟩ := paidx_ok hs rfl he h4
        refine ⟨rfl, r, h5, fun H W β T' hr => ?_⟩
        obtain ⟨a, g1, g2⟩ := pOp_rel h1 (hr x (by simp [Op.operands]))
        obtain ⟨b, g3, g4⟩ := pOp_rel h3 (hr i (by simp [Op.operands]))
        exact h6 H W β a b _ x i g1 g3 g2 g4
      · exact h4.elim
    · exact h4.elim
  · rename_i t x i
    obtain ⟨p, h1, h2⟩ := popdK_ok h
    obtain ⟨q, h3, h4⟩ := popdK_ok h2
    split at h4
    · rename_i hs
      split at h4
      · rename_i ei he
        split at h4
        · rename_i cs k m
          obtain ⟨h5, r, h6, h7⟩ := h4
          refine ⟨rfl, r, h7, fun H W β T' hr => ?_⟩
          obtain ⟨a, g1, g2⟩ := pOp_rel h1 (hr x (by simp [Op.operands]))
          obtain ⟨b, g3, g4⟩ := pOp_rel h3 (hr i (by simp [Op.operands]))
          obtain ⟨as, rfl, g5⟩ := g2.agg_inv
          rw [g4.int_inv] at g3
          obtain ⟨v, g6, g7⟩ := partP_ok he (fun _ _ h => RelV.agg h) g5 h6
          exact ⟨v, by simp only [pureE, hs, g1, g3, he]; rw [if_pos h5]; exact g6, g7⟩
        · exact h4.elim
      · exact h4.elim
    · rename_i hs
      split at h4
      · rename_i s k m
        obtain ⟨h5, b, h6, h7⟩ := h4
        refine ⟨rfl, _, h7, fun H W β T' hr => ?_⟩
        obtain ⟨a, g1, g2⟩ := pOp_rel h1 (hr x (by simp [Op.operands]))
        obtain ⟨b', g3, g4⟩ := pOp_rel h3 (hr i (by simp [Op.operands]))
        rw [g2.str_inv] at g1
        rw [g4.int_inv] at g3
        exact ⟨_, by simp only [pureE, hs, g1, g3]; rw [if_pos h5]; simp only [h6], .clo (.int _ _)⟩
      · exact h4.elim
    · exact h4.elim
  · rename_i t x lo hi
    obtain ⟨p, h1, h2⟩ := popdK_ok h
    have hops : ∀ {H : Heap} {W : Nat → Prop} {β : List Nat} {T' : List AV}, (∀ y ∈ (Op.slice t x lo hi none).operands.toList, TR H W β T T' y) → ∀ y ∈ lo.toList ++ hi.toList, TR H W β T T' y := fun hr y hy => hr y (by
      simp only [Op.operands]
      rcases List.mem_append.1 hy with hy | hy
      · have : lo = some y := by simpa using hy
        subst this; simp
      · have : hi = some y := by simpa using hy
        subst this; simp)
    split at h2
    · rename_i hs
      split at h2
      · obtain ⟨n1, l1, h3, g1⟩ := phiK_ok h2 (Nat.le_refl _)
        obtain ⟨n2, l2, h4, g2⟩ := phiK_ok h3 (Nat.zero_le _)
        refine ⟨rfl, _, h4, fun H W β T' hr => ?_⟩
        obtain ⟨a, q1, q2⟩ := pOp_rel h1 (hr x (by simp [Op.operands]))
        rw [q2.str_inv] at q1
        have hr2 := hops hr
        have e1 := g1 H W β T' (fun y hy => hr2 y (List.mem_append.2 (.inr hy))) _ (Nat.le_refl _)
        have e2 := g2 H W β T' (fun y hy => hr2 y (List.mem_append.2 (.inl hy))) _ (Nat.le_refl _)
        exact ⟨_, slice_str hs q1 e1 e2, .clo (.str _)⟩
      · exact h2.elim
    · rename_i hs
      split at h2
      · rename_i ei he
        obtain ⟨r, h5, h6⟩ := psl_ok hs rfl he h2
        refine ⟨rfl, r, h5, fun H W β T' hr => ?_⟩
        obtain ⟨a, q1, q2⟩ := pOp_rel h1 (hr x (by simp [Op.operands]))
        exact h6 H W β a T' x q1 (hops hr) q2
      · exact h2.elim
    · rename_i hs
      split at h2
      · rename_i ei he
        obtain ⟨r, h5, h6⟩ := pasl_ok hs rfl he h2
        refine ⟨rfl, r, h5, fun H W β T' hr => ?_⟩
        obtain ⟨a, q1, q2⟩ := pOp_rel h1 (hr x (by simp [Op.operands]))
        exact h6 H W β a T' x q1 (hops hr) q2
      · exact h2.elim
    · exact h2.elim
  · rename_i f first captured
    split at h
    · rename_i h1 h2
      refine ⟨rfl, _, h, fun H W β T' hr => ⟨_, by simp only [pureE, h1, h2, opds], .clo (.fn f)⟩⟩
    · rename_i h1 h2
      obtain ⟨cs, h3, h4⟩ := popdsK_ok h
      refine ⟨rfl, _, h4, fun H W β T' hr => ?_⟩
      obtain ⟨as, g1, g2⟩ := pOps_rel h3 fun x hx => hr x (by simp only [Op.operands]; simp; exact .inr (by simpa using hx))
      exact ⟨_, by simp only [pureE, h1, g1, opds], .fnc f g2⟩
    · exact h.elim
  · rename_i b args ts
    obtain ⟨ps, h1, h2⟩ := popdsK_ok h
    obtain ⟨hb, r, h3, h4⟩ := built_ok h2
    refine ⟨by rcases hb with rfl | rfl | rfl | rfl <;> first | rfl | simp [kindOf, len_notmap h2], r, h3, fun H W β T' hr => ?_⟩
    obtain ⟨as, g1, g2⟩ := pOps_rel h1 fun x hx => hr x (by simp [Op.operands, Call.operands]; simpa using hx)
    obtain ⟨v, g3, g4⟩ := h4 H W β as g2
    exact ⟨v, by simp only [pureE, g1]; exact g3, g4⟩
  · exact h.elim
end Go.PI
