/- Own work of the verifier: RnA RnB RnArg OzH OtH. -/
import Derived.Test.YtefajaiioljjoaaOwAU
import Derived.Test.YtefajaiioljjoaaOwAV
import Derived.Test.YtefajaiioljjoaaOwBD
import Derived.Test.YtefajaiioljjoaaOwBE
import Derived.Test.YtefajaiioljjoaaOwBB
import Derived.Test.YtefajaiioljjoaaOwBC
set_option linter.all false
set_option exponentiation.threshold 3000
set_option linter.deprecated false
/- RENUMBERED origamis: the mathematics. -/
open Go.Proofs
namespace Go.PI
open IM
set_option maxRecDepth 10000
set_option maxHeartbeats 4000000
section
variable {n m : Nat} {f f' g g' F F' G G' e e' h : Nat → Nat} {A B C : Int}
theorem rn_isP (pf : IsP n f f') (he : IsP n e e') : IsP n (rn e e' f) (rn e e' f') :=
  ⟨fun i hi => he.glt _ (pf.lt _ (he.lt i hi)), fun i hi => he.glt _ (pf.glt _ (he.lt i hi)),
   fun i hi => by show e' (f' (e (e' (f (e i))))) = i; rw [he.fg _ (pf.lt _ (he.lt i hi)), pf.gf _ (he.lt i hi), he.gf i hi],
   fun i hi => by show e' (f (e (e' (f' (e i))))) = i; rw [he.fg _ (pf.glt _ (he.lt i hi)), pf.fg _ (he.lt i hi), he.gf i hi]⟩
theorem rn_isom (he : IsP n e e') : Isom n f g (rn e e' f) (rn e e' g) e' :=
  ⟨he.glt, fun x y hx hy h => he.inv.inj hx hy h, fun x hx => by show e' (f (e (e' x))) = _; rw [he.fg x hx], fun x hx => by show e' (g (e (e' x))) = _; rw [he.fg x hx]⟩
theorem rn_isom' (pf : IsP n f f') (pg : IsP n g g') (he : IsP n e e') : Isom n (rn e e' f) (rn e e' g) f g e :=
  ⟨he.lt, fun x y hx hy h => he.inj hx hy h, fun x hx => by show f (e x) = e (e' (f (e x))); rw [he.fg _ (pf.lt _ (he.lt x hx))], fun x hx => by show g (e x) = e (e' (g (e x))); rw [he.fg _ (pg.lt _ (he.lt x hx))]⟩
theorem Isom.edg (i : Isom n f g F G h) {px py : Nat → Int} (E : Edg n F G px py A B C) : Edg n f g (fun s => px (h s) - px (h 0)) (fun s => py (h s) - py (h 0)) A B C :=
  ⟨Int.sub_self _, Int.sub_self _, fun s hs => by
    have := E.r (h s) (i.lt s hs)
    rw [i.f s hs] at this
    exact this.cast (by omega) (by omega), fun s hs => by
    have := E.u (h s) (i.lt s hs)
    rw [i.g s hs] at this
    exact this.cast (by omega) (by omega)⟩
theorem per_sub (pf : IsP n f f') (pg : IsP n g g') (h0 : 0 < n) {px py : Nat → Int} (E : Edg n f g px py A B C) {A' B' C' : Int} (P : Per f f' g g' A' B' C') {x y : Int} (hl : Ltt A' B' C' x y) : Ltt A B C x y :=
  (wk_ltt pf pg h0 E (P x y hl)).cast (by rw [E.zx]; omega) (by rw [E.zy]; omega)
theorem per_iso (pf : IsP n f f') (pg : IsP n g g') (pF : IsP n F F') (pG : IsP n G G') (h0 : 0 < n) {k : Nat → Nat} (i : Isom n f g F G h) (j : Isom n F G f g k) {px py qx qy : Nat → Int} {A' B' C' : Int} (E : Edg n f g px py A B C) (P : Per f f' g g' A B C) (N : NFm A B C) (E' : Edg n F G qx qy A' B' C') (P' : Per F F' G G' A' B' C') (N' : NFm A' B' C') : A = A' ∧ B = B' ∧ C = C' :=
  per_uniq pf pg h0 E P N (i.edg E') (fun x y hl => P x y (per_sub pF pG h0 (j.edg E) P' hl)) N'
theorem rn_conj (pf : IsP n f f') (pg : IsP n g g') (he : IsP n e e') : Conj n (cmf f f' g g') (cmf (rn e e' f) (rn e e' f') (rn e e' g) (rn e e' g')) e' := fun x hx => by
  show e' (g (e (e' (f (e (e' (g' (e (e' (f' (e (e' x)))))))))))) = e' (g (f (g' (f' x))))
  have a1 := pf.glt x hx
  have a2 := pg.glt _ a1
  have a3 := pf.lt _ a2
  rw [he.fg x hx, he.fg _ a1, he.fg _ a2, he.fg _ a3]
theorem len_cnt {X Y : List (List Int)} (hc : ∀ L, cntI X L = cntI Y L) : X.length = Y.length := by
  have hp : (X.map List.length).Perm (Y.map List.length) := by
    refine List.perm_iff_count.2 fun L => ?_
    have := hc L
    unfold cntI at this
    rw [List.count_eq_length_filter, List.count_eq_length_filter, List.filter_map, List.filter_map, List.length_map, List.length_map]
    refine Eq.trans ?_ (this.trans ?_)
    · congr 1
    · congr 1
  have := hp.length_eq
  rwa [List.length_map, List.length_map] at this
theorem PL_inj {a b : Nat → Nat} (hab : PL n a = PL n b) {i : Nat} (hi : i < n) : a i = b i := by
  have h1 := PL_get (f := a) hi
  rw [hab, PL_get hi] at h1
  have := Option.some.inj h1
  omega
theorem isom_of_label (pf : IsP n f f') (pg : IsP n g g') (pF : IsP n F F') (pG : IsP n G G') (h0 : 0 < n) (hc : Conn n f g) (hC : Conn n F G) {s t : Nat} (hs : s < n) (ht : t < n) (h1 : Rs f g n s = Rs F G n t) (h2 : Us f g n s = Us F G n t) :
    Isom n f g F G fun x => es F G n t (ei f g n s x) := by
  have p := es_perm pf pg h0 hs hc
  have q := es_perm pF pG h0 ht hC
  refine ⟨fun x hx => q.lt _ (p.glt x hx), fun x y hx hy e => ?_, fun x hx => ?_, fun x hx => ?_⟩
  · have := q.inj (p.glt x hx) (p.glt y hy) e
    exact p.inv.inj hx hy this
  · have := PL_inj h1 (p.glt x hx)
    unfold rn at this
    rw [p.fg x hx] at this
    show _ = es F G n t (ei f g n s (f x))
    rw [this, q.fg _ (pF.lt _ (q.lt _ (p.glt x hx)))]
  · have := PL_inj h2 (p.glt x hx)
    unfold rn at this
    rw [p.fg x hx] at this
    show _ = es F G n t (ei f g n s (g x))
    rw [this, q.fg _ (pG.lt _ (q.lt _ (p.glt x hx)))]
theorem map_onto (pf : IsP n f f') (pg : IsP n g g') (pF : IsP m F F') (pG : IsP m G G') (h0 : 0 < n) (hC : Conn m F G) {s : Nat} (hm : MapAt n m s f g F G h) (hs : s < m) {y : Nat} (hy : y < m) : ∃ x, x < n ∧ h x = y := by
  have key : ∀ y, Rch F G s y → ∃ x, x < n ∧ h x = y := fun y hr => by
    induction hr with
    | refl => exact ⟨0, h0, hm.z⟩
    | @f y _ ih => obtain ⟨x, hx, rfl⟩ := ih; exact ⟨f x, pf.lt _ hx, (hm.c x hx).1⟩
    | @g y _ ih => obtain ⟨x, hx, rfl⟩ := ih; exact ⟨g x, pg.lt _ hx, (hm.c x hx).2⟩
  exact key y (((hC s hs).symm pF pG (by omega)).trans (hC y hy))
theorem map_isom (pf : IsP n f f') (pg : IsP n g g') (pF : IsP n F F') (pG : IsP n G G') (h0 : 0 < n) (hC : Conn n F G) {s : Nat} (hs : s < n) (hm : MapAt n n s f g F G h) : Isom n f g F G h := by
  refine ⟨hm.lt, fun x y hx hy e => ?_, fun x hx => (hm.c x hx).1.symm, fun x hx => (hm.c x hx).2.symm⟩
  refine Classical.byContradiction fun hne => ?_
  have := len_le_of (l := List.range n) (m := ((List.range n).erase y).map h) List.nodup_range fun z hz => by
    obtain ⟨w, hw, rfl⟩ := map_onto pf pg pF pG h0 hC hm hs (List.mem_range.1 hz)
    by_cases e2 : w = y
    · subst e2
      exact List.mem_map.2 ⟨x, (List.Nodup.mem_erase_iff List.nodup_range).2 ⟨hne, List.mem_range.2 hx⟩, e⟩
    · exact List.mem_map.2 ⟨w, (List.Nodup.mem_erase_iff List.nodup_range).2 ⟨e2, List.mem_range.2 hw⟩, rfl⟩
  rw [List.length_map, List.length_erase_of_mem (List.mem_range.2 hy), List.length_range] at this
  omega
theorem Isom.map (i : Isom n f g F G h) : MapAt n n (h 0) f g F G h := ⟨rfl, i.lt, fun x hx => ⟨(i.f x hx).symm, (i.g x hx).symm⟩⟩
theorem mps_of {k : Nat} : k ≤ m → ∀ l ∈ mps n m f g F G k, ∃ h s, s < m ∧ MapAt n m s f g F G h ∧ l = PL n h := by
  induction k with
  | zero => intro _ l hl; cases hl
  | succ k ih =>
    intro hk l hl
    rcases List.mem_append.1 (show l ∈ mps n m f g F G k ++ mp1 n m f g F G k from hl) with hl | hl
    · exact ih (by omega) l hl
    · unfold mp1 at hl
      split at hl
      · rename_i he
        rw [List.mem_singleton.1 hl]
        exact ⟨_, k, by omega, he.choose_spec, rfl⟩
      · cases hl
theorem mps_ne (pf : IsP n f f') (pg : IsP n g g') (h0 : 0 < n) (hc : Conn n f g) {s : Nat} (hs : s < m) (hm : MapAt n m s f g F G h) : mps n m f g F G m ≠ [] := fun e => by
  obtain ⟨t, ht⟩ := mps_pre (n := n) (m := m) (f := f) (g := g) (F := F) (G := G) (s := s + 1) (m' := m) (by omega)
  rw [e] at ht
  have : PL n h ∈ mps n m f g F G s ++ mp1 n m f g F G s := List.mem_append_right _ (by rw [mp1_yes pf pg h0 hc hm]; simp)
  have h2 : mps n m f g F G (s + 1) = [] := (List.append_eq_nil_iff.1 ht.symm).1
  rw [show mps n m f g F G s ++ mp1 n m f g F G s = mps n m f g F G (s + 1) from rfl, h2] at this
  cases this
end
section
variable {r u r2 u2 : List Int} {n : Nat} {f f' g g' F F' G G' h : Nat → Nat}
theorem Isom.chk (ho : IsO r u n f f' g g') (ho2 : IsO r2 u2 n F F' G G') (i : Isom n f g F G h) : chkM r u r2 u2 (PL n h) true = 0 := by
  have l1 := ho.l1.1
  have l2 := ho2.l1.1
  have hf : IsF (PL n h) n n h := ⟨rfl, i.lt⟩
  refine chkM_0 (chkA_two.2 ⟨ho.chk, ho2.chk⟩) (fun hh => ?_) (fun z hz => ?_) ((covL_iff ho ho2 hf).2 ⟨fun x hx => ⟨(i.f x hx).symm, (i.g x hx).symm⟩, fun y hy => ?_⟩)
  · rw [PL_len] at hh
    rcases hh with hh | ⟨-, hh⟩ <;> omega
  · unfold PL at hz
    obtain ⟨x, hx, rfl⟩ := List.mem_map.1 hz
    have := i.lt x (List.mem_range.1 hx)
    exact ⟨by omega, by omega⟩
  · obtain ⟨x, hx, rfl⟩ := i.onto hy
    unfold PL
    exact List.mem_map.2 ⟨x, List.mem_range.2 hx, rfl⟩
end
end Go.PI
/- A SHUFFLED list of numbers. -/
open Go.Proofs
namespace Go.PI
open IM
set_option maxRecDepth 20000
set_option maxHeartbeats 4000000
variable (S : FuncId → Option (List AV → Heap → Option (AV × Heap)))
def Gl (v : PV) (σ : List StB) (ys : List Int) : Prop :=
  (v = .nils ∧ ys = []) ∨ (∃ j, v = .own j 0 ys.length ys.length 1 ∧ σ[j]? = some (.live 3 (ys.map pn))) ∨ (∃ j, v = .ownu j ys.length 1 ∧ σ[j]? = some (.live 3 (ys.map pn)))
theorem Gl.fz {v : PV} {σ : List StB} {ys : List Int} (h : Gl v σ ys) : ∃ σ', Fz v σ (pIs ys) σ' := by
  rcases h with ⟨rfl, rfl⟩ | ⟨j, rfl, h⟩ | ⟨j, rfl, h⟩
  · exact ⟨σ, fzN⟩
  · exact ⟨_, fun K hK => ⟨3, _, _, contOf_live h, ⟨by simp, Nat.le_refl _⟩, by rw [List.drop_zero, List.take_of_length_le (by simp)], hK⟩⟩
  · exact ⟨_, fun K hK => ⟨3, _, _, contOf_live h, ⟨by simp, fun _ => rfl⟩, by rw [List.take_of_length_le (by simp)], hK⟩⟩
theorem Gl.push {v : PV} {σ : List StB} {ys : List Int} {b : StB} (h : Gl v σ ys) : Gl v (σ ++ [b]) ys := by
  rcases h with ⟨rfl, rfl⟩ | ⟨j, rfl, h⟩ | ⟨j, rfl, h⟩
  · exact .inl ⟨rfl, rfl⟩
  · exact .inr (.inl ⟨j, rfl, by rw [List.getElem?_append_left (List.getElem?_eq_some_iff.1 h).1]; exact h⟩)
  · exact .inr (.inr ⟨j, rfl, by rw [List.getElem?_append_left (List.getElem?_eq_some_iff.1 h).1]; exact h⟩)
theorem Gl.apW {v : PV} {σ : List StB} {ys : List Int} {T : List PV} {qs : List Tmp} (h : Gl v σ ys) (k : ∀ j, apC T j qs) : PI.apW T qs v := by
  rcases h with ⟨rfl, rfl⟩ | ⟨j, rfl, h⟩ | ⟨j, rfl, h⟩
  · trivial
  · exact k j
  · exact k j
theorem appLk {σ : List StB} {v : PV} {ys xs : List Int} { c k : Nat} {K : PV → List StB → Nat → Prop} (hg : Gl v σ ys) (hx : xs.length ≤ 1000000) (hy : ys.length ≤ 1000000) (hk : k < c)
    (hK : ∀ v' σ' k', k ≤ k' → k' ≤ k + 1 → Gl v' σ' (ys ++ xs) → (∀ i b, blkOf v ≠ some i → σ[i]? = some b → σ'[i]? = some b) → (∀ i, blkOf v' = some i → blkOf v = some i ∨ σ.length ≤ i) → K v' σ' k') : AppK (ctx.plus S) c k σ [22, 22] v (pIs xs) K := by
  rcases hg with ⟨rfl, rfl⟩ | ⟨j, rfl, h⟩ | ⟨j, rfl, h⟩
  · refine ⟨⟨by rw [List.length_map]; show xs.length = xs.length * 1; omega, ⟨⟨by show xs.length ≤ 2 ^ 30; omega, pones_pn xs⟩, fun h => ?_, fun h => ⟨hk, ?_⟩⟩⟩⟩
    · have h0 : xs = [] := List.eq_nil_of_length_eq_zero (by have : (xs).length = 0 := h; exact this)
      have hz := hK .nils σ k (Nat.le_refl _) (by omega) (.inl ⟨rfl, by rw [h0]; rfl⟩) (fun _ _ _ h => h) (fun _ h => nomatch h)
      exact hz
    · exact hK _ _ _ (by omega) (Nat.le_refl _) (.inr (.inr ⟨σ.length, by simp; rfl, by simp⟩)) (fun _ _ _ h => push_old h) (fun i h => .inr (by have := Option.some.inj h; omega))
  · have hjl := (List.getElem?_eq_some_iff.1 h).1
    refine ⟨⟨by rw [List.length_map]; show xs.length = xs.length * 1; omega, ⟨⟨by show xs.length ≤ 2 ^ 30; omega, pones_pn xs⟩, by show ys.length ≤ 2 ^ 30; omega, fun hc => ?_, fun hc => ⟨hk, 3, _, (ys ++ xs).map pn, contOf_live h, by rw [List.length_map]; show 0 + ys.length * 1 ≤ ys.length; omega, ?_, ?_⟩⟩⟩⟩
    · have h0 : xs = [] := List.eq_nil_of_length_eq_zero (by have : ys.length + xs.length ≤ ys.length := hc; omega)
      refine ⟨3, _, ys.map pn, h, ?_, ?_, ?_⟩
      · show 0 + ys.length * 1 + ((xs).map pn).length ≤ (ys.map pn).length
        rw [h0]
        simp
      · show pspl (ys.map pn) (0 + ys.length * 1) ((xs).map pn) = _
        rw [h0]
        unfold pspl
        simp
      · have hz := hK (.own j 0 (ys.length + xs.length) ys.length 1) (σ.set j (.live 3 (ys.map pn))) k (Nat.le_refl _) (by omega) (.inr (.inl ⟨j, by rw [h0]; simp, ?_⟩)) (fun i b hi hb => by rw [List.getElem?_set_ne (fun e => hi (by rw [← e]; rfl))]; exact hb) (fun i h => .inl h)
        · exact hz
        rw [List.getElem?_set_self hjl, h0]
        simp
    · show ((ys.map pn).drop 0).take (ys.length * 1) ++ (xs).map pn = _
      rw [List.drop_zero, List.take_of_length_le (by simp), List.map_append]
    · exact hK _ _ _ (by omega) (Nat.le_refl _) (.inr (.inr ⟨σ.length, by rw [List.length_append]; rfl, by simp⟩)) (fun _ _ _ h => push_old h) (fun i h => .inr (by have := Option.some.inj h; omega))
  · refine ⟨⟨by rw [List.length_map]; show xs.length = xs.length * 1; omega, ⟨⟨by show xs.length ≤ 2 ^ 30; omega, pones_pn xs⟩, ⟨by show ys.length ≤ 2 ^ 30; omega, rfl, hk⟩, _, (ys ++ xs).map pn, h, by rw [List.length_map]; show ys.length * 1 ≤ ys.length; omega, ?_, ?_⟩⟩⟩
    · show (ys.map pn).take (ys.length * 1) ++ (xs).map pn = _
      rw [List.take_of_length_le (by simp), List.map_append]
    · exact hK _ _ _ (by omega) (Nat.le_refl _) (.inr (.inr ⟨(σ.set j .dead).length, by rw [List.length_append, List.length_set], by simp⟩)) (fun i b hi hb => push_old (by rw [List.getElem?_set_ne (fun e => hi (by rw [← e]; rfl))]; exact hb)) (fun i h => .inr (by have := Option.some.inj h; omega))
theorem Gl.cn {v : PV} {σ : List StB} {ys : List Int} (h : Gl v σ ys) : Cn pn v σ ys := by
  rcases h with h | ⟨j, rfl, h⟩ | ⟨j, rfl, h⟩
  · exact .inl h
  · exact .inr ⟨j, 3, contOf_live h, .inl rfl⟩
  · exact .inr ⟨j, 3, contOf_live h, .inr rfl⟩
theorem perm_isP {X : List Nat} {n : Nat} (h : X.Perm (List.range n)) : ∃ e e', IsP n e e' ∧ NL X = PL n e' := by
  have hl : X.length = n := by rw [h.length_eq, List.length_range]
  have hnd : X.Nodup := h.nodup_iff.2 List.nodup_range
  have hm : ∀ x, x ∈ X ↔ x < n := fun x => by rw [h.mem_iff, List.mem_range]
  have hg : ∀ i, i < n → X[i]? = some (X.getD i 0) := fun i hi => by
    rw [List.getD_eq_getElem?_getD, List.getElem?_eq_getElem (by omega)]; rfl
  have hgl : ∀ i, i < n → X.getD i 0 < n := fun i hi => (hm _).1 (List.mem_of_getElem? (hg i hi))
  have hil : ∀ x, x < n → X.idxOf x < n := fun x hx => by rw [← hl]; exact List.idxOf_lt_length_iff.2 ((hm x).2 hx)
  refine ⟨fun x => X.idxOf x, fun i => X.getD i 0, ⟨hil, hgl, fun x hx => ?_, fun i hi => ?_⟩, ?_⟩
  · show X.getD (X.idxOf x) 0 = x
    rw [List.getD_eq_getElem?_getD, List.getElem?_eq_getElem (by have := hil x hx; omega)]
    exact List.getElem_idxOf _
  · show X.idxOf (X.getD i 0) = i
    have h1 := hg i hi
    rw [List.getElem?_eq_getElem (by omega)] at h1
    rw [← Option.some.inj h1]
    exact hnd.idxOf_getElem i (by omega)
  · refine (List.ext_getElem? fun i => ?_)
    by_cases hi : i < n
    · rw [PL_get hi]
      unfold NL
      rw [List.getElem?_map, hg i hi]; rfl
    · rw [List.getElem?_eq_none (by unfold NL; rw [List.length_map]; omega), List.getElem?_eq_none (by rw [PL_len]; omega)]
def p8 (x : Int) : PV := .int .u8 x
theorem copyInts0_cf (hS : OldO S) : Cfr (ctx.plus S) 103 [pIs []] 2 fun ty n cp e cs => ty = 3 ∧ n = 0 ∧ cp = 0 ∧ e = 1 ∧ cs = [] := by
  refine cf_of (hS 103 (by decide)) fn103 ?_
  refine ⟨by omega, part0 ⟨_, rfl, ?_⟩⟩
  refine ⟨⟨rfl, ⟨⟨by decide, rfl⟩, by decide, fun hc => ⟨3, _, [], push_get, by decide, rfl, ?_⟩, fun hc => absurd hc (by decide)⟩⟩⟩
  exact ⟨⟨_, _, _, _, _, _, rfl, rfl, rfl, rfl, rfl, ⟨rfl, rfl⟩⟩⟩
theorem fn59 : ctx.fn 59 = some c59 := by kernel_rfl
theorem shuffled_ct (hS : OldO S) {n : Nat} (hn : n ≤ 60) {bs : List Int} (hb : ∀ b ∈ bs, 0 ≤ b ∧ b < 256) :
    Ct (ctx.plus S) 59 [pn n, .lst bs.length (bs.map p8)] 1000 fun w => ∃ e e', IsP n e e' ∧ w = pIs (PL n e') := by
  refine ct_of (hS 59 (by decide)) fn59 ?_
  refine ⟨fun q s => ∃ (i : Nat) (v : PV) (σ : List StB) (b : Nat) (T : List PV), s = ⟨T, σ, b⟩ ∧ Gt T 53 [(0, pn n), (1, .lst bs.length (bs.map p8)), (5, v), (6, .nils), (7, pn i)] ∧ q = n - i ∧ i ≤ n ∧ b ≤ 3 * i ∧ Hid (Gr pnn 3 v σ (List.range i)), ⟨_, ci ⟨0, .nils, [], 0, _, rfl, ⟨rfl, rfl, rfl, rfl, rfl, rfl, trivial⟩, rfl, Nat.zero_le _, Nat.zero_le _, ⟨.inl ⟨rfl, rfl⟩⟩⟩⟩, ?_⟩
  rintro _ s ⟨i, v, σ, b, T, rfl, hT, rfl, hi, hbb, hh⟩
  obtain ⟨J, rfl⟩ := gt_open hT
  clear hT
  have hg := hh.h
  clear hh
  refine ⟨fun hlt => ?_, fun hge => ?_⟩
  · refine ⟨by omega, part1 fzI ⟨[pnn i], rfl, ?_⟩⟩
    refine appGu (f := pnn) (e := 3) (y := i) hg.push push_cont rfl rfl rfl rfl (by kernel_rfl) rfl rfl (by rw [List.length_range]; omega) (by omega) fun σ' hlv hkp => ?_
    refine ⟨⟨by omega, by omega⟩, ?_⟩
    rw [← List.range_succ] at hlv ⊢
    exact ⟨_, by omega, ci ⟨i + 1, _, σ', _, _, rfl, ⟨rfl, rfl, rfl, rfl, rfl, rfl, trivial⟩, rfl, by omega, by omega, ⟨.inr (.inr ⟨_, rfl, hlv⟩)⟩⟩⟩
  · have hin : i = n := by omega
    rw [hin] at hg
    obtain ⟨σ5, f5, -, f6, f7⟩ := hg.cn.fz
    rw [List.length_range, show (List.range n).map pnn = (NL (List.range n)).map pn by unfold NL; rw [List.map_map]; rfl] at f5
    refine ⟨fun q s => ∃ (k : Nat) (R X : List Nat) (w : PV) (σ : List StB) (b : Nat) (T : List PV), s = ⟨T, σ, b⟩ ∧ Gt T 53 [(0, pn n), (1, .lst bs.length (bs.map p8)), (5, .lst R.length ((NL R).map pn)), (6, w), (8, pn k)] ∧ q = R.length ∧ k + R.length = n ∧ b ≤ 200 + 10 * k ∧ Hid (Gr pnn 3 w σ X ∧ (X ++ R).Perm (List.range n)), ⟨_, ⟨_, frzS_tmp (i := 5) rfl (f5 _ rfl), 0, List.range n, [], .nils, σ5, _, _, rfl, ⟨rfl, rfl, rfl, by rw [List.length_range]; rfl, rfl, rfl, trivial⟩, rfl, by rw [List.length_range]; omega, by omega, ⟨.inl ⟨rfl, rfl⟩, List.Perm.refl _⟩⟩⟩, ?_⟩
    clear f5 f6 f7 σ5 hg hin hge hi hbb σ v b i
    rintro _ s ⟨k, R, X, w, σ, b, T, rfl, hT, rfl, hk, hbb, hh⟩
    obtain ⟨J, rfl⟩ := gt_open hT
    clear hT
    obtain ⟨hg, hp⟩ := hh.h
    clear hh
    refine ⟨fun hlt => ?_, fun hge => ?_⟩
    · refine ⟨fun h1 => ?_, fun h1 => ?_⟩
      · obtain ⟨x, hx⟩ : ∃ x, bs[k]? = some x := ⟨_, List.getElem?_eq_getElem (by have h2 : (k : Int) < ((bs.length : Nat) : Int) := h1; omega)⟩
        have hxb := hb x (List.mem_of_getElem? hx)
        have hw : IntKind.i64.wrap x = x := wrap64 (by unfold In64; omega)
        have hlt' : (0 : Int) < ((R.length : Nat) : Int) := hlt
        obtain ⟨a, ha⟩ : ∃ a : Nat, (IntKind.i64.wrap x).tmod ((R.length : Nat) : Int) = (a : Int) := ⟨((IntKind.i64.wrap x).tmod ((R.length : Nat) : Int)).toNat, by rw [hw, Int.toNat_of_nonneg (Int.tmod_nonneg _ hxb.1)]⟩
        have haR : a < R.length := by
          have := Int.tmod_lt_of_pos (IntKind.i64.wrap x) hlt'
          omega
        refine ⟨by have h2 : (k : Int) < ((bs.length : Nat) : Int) := h1; rw [List.length_map]; exact ⟨⟨by omega, h2⟩, by show _ * 1 ≤ _; omega⟩, _, ld (at_map hx) (by show _ * 1 = k; omega), ?_⟩
        refine ⟨by omega, ?_⟩
        rw [ha]
        obtain ⟨y, hy⟩ : ∃ y, R[a]? = some y := ⟨_, List.getElem?_eq_getElem haR⟩
        have hy' : (NL R)[a]? = some (y : Int) := by unfold NL; rw [List.getElem?_map, hy]; rfl
        have hlen : ((NL R).map pn).length = R.length := by rw [List.length_map]; exact NL_len
        refine ⟨⟨⟨by omega, by omega⟩, by rw [hlen]; show _ * 1 ≤ _; omega⟩, _, ld (at_map hy') (by show _ * 1 = a; omega), by omega, part1 fzI ⟨[pnn y], rfl, ?_⟩⟩
        refine appGu (f := pnn) (e := 3) (y := y) hg.push push_cont rfl rfl rfl rfl (by kernel_rfl) rfl rfl (by have := hp.length_eq; rw [List.length_append, List.length_range] at this; omega) (by omega) fun σ' hlv hkp => ?_
        have hperm : ((X ++ [y]) ++ (R.take a ++ R.drop (a + 1))).Perm (List.range n) := by
          refine List.Perm.trans ?_ hp
          rw [List.append_assoc]
          refine List.Perm.append_left X ?_
          refine (List.perm_middle (a := y) (l₁ := R.take a) (l₂ := R.drop (a + 1))).symm.trans ?_
          have h3 := List.getElem?_eq_getElem haR
          rw [hy] at h3
          rw [Option.some.inj h3, List.getElem_cons_drop, List.take_append_drop]
        refine ⟨by kernel_rfl, ?_⟩
        have hNl : (NL R).length = R.length := NL_len
        have ea : ((a : Int).toNat - 0) = (NL (R.take a)).length := by rw [NL_len, List.length_take]; omega
        refine ⟨by rw [List.length_map]; show (NL R).length = R.length * 1; omega, ⟨by omega, by omega⟩, fun _ => rfl, (NL (R.take a)).map pn, ?_, ?_⟩
        · unfold NL; rw [List.map_take, List.map_take]; show List.take ((_ - 0) * 1) (List.drop (0 * 1) _) = _; simp
        rw [ea]
        rcases Nat.eq_zero_or_pos a with h0 | h0
        · subst h0
          refine callqf rfl (copyInts0_cf S hS) (by omega) ?_
          rintro ty m cp e cs ⟨rfl, rfl, rfl, rfl, rfl⟩
          refine ⟨⟨by omega, by omega⟩, ?_⟩
          refine ⟨by rw [List.length_map]; show (NL R).length = R.length * 1; omega, ⟨by omega, by omega⟩, fun _ => rfl, (NL (R.drop (0 + 1))).map pn, ?_, ?_⟩
          · unfold NL; rw [List.map_drop, List.map_drop]; show List.take ((_ - ((0 : Nat) + 1 : Int).toNat) * 1) (List.drop (((0 : Nat) + 1 : Int).toNat * 1) _) = _
            rw [show ((0 : Nat) + 1 : Int).toNat = 0 + 1 by omega, Nat.mul_one, Nat.mul_one, List.take_of_length_le (by rw [List.length_drop, List.length_map, List.length_map]; exact Nat.le_refl _)]
          have eb : (R.length - ((0 : Nat) + 1 : Int).toNat) = (NL (R.drop (0 + 1))).length := by rw [NL_len, List.length_drop]; omega
          rw [eb]
          refine appLk S (xs := NL (R.drop (0 + 1))) (ys := []) (v := .own σ'.length 0 0 0 1) (.inr (.inl ⟨_, rfl, push_get⟩)) (by rw [NL_len, List.length_drop]; omega) (by first | decide | (rw [NL_len, List.length_take]; omega)) (by omega) fun v2 σ2 k2 q1 q2 hg2 hkp2 hbv => ?_
          have eNL : [] ++ NL (R.drop (0 + 1)) = NL (R.take 0 ++ R.drop (0 + 1)) := by unfold NL; rw [List.map_append]; try rfl
          rw [eNL] at hg2
          have hwl := (List.getElem?_eq_some_iff.1 hlv).1
          have hw2 := hkp2 _ _ (fun e => by have := Option.some.inj e; omega) (push_old hlv)
          obtain ⟨σ5, f5, -, f6, f7⟩ := hg2.cn.fz
          have hw5 := f7 _ _ (fun e => by
            rcases hbv _ e with e2 | e2
            · have := Option.some.inj e2; omega
            · rw [List.length_append, List.length_singleton] at e2; omega) hw2
          rw [NL_len] at f5
          refine ⟨⟨by omega, by omega⟩, ?_⟩
          exact ⟨R.length - 1, by omega, ⟨_, frzS_tmp (i := 5) rfl (f5 _ rfl), k + 1, R.take 0 ++ R.drop (0 + 1), X ++ [y], _, σ5, _, _, rfl, ⟨rfl, rfl, rfl, rfl, rfl, rfl, trivial⟩, by rw [List.length_append, List.length_take, List.length_drop]; omega, by rw [List.length_append, List.length_take, List.length_drop]; omega, by omega, ⟨.inr (.inr ⟨_, rfl, hw5⟩), hperm⟩⟩⟩
        · refine callqu rfl (copyInts_cu S hS (xs := NL (R.take a)) (fun e => by have := congrArg List.length e; rw [NL_len, List.length_take, List.length_nil] at this; omega) (by rw [NL_len, List.length_take]; omega)) (by omega) ?_
          rintro ty m e cs ⟨rfl, rfl, rfl, rfl⟩
          refine ⟨⟨by omega, by omega⟩, ?_⟩
          refine ⟨by rw [List.length_map]; show (NL R).length = R.length * 1; omega, ⟨by omega, by omega⟩, fun _ => rfl, (NL (R.drop (a + 1))).map pn, ?_, ?_⟩
          · unfold NL; rw [List.map_drop, List.map_drop]; show List.take ((_ - ((a : Nat) + 1 : Int).toNat) * 1) (List.drop (((a : Nat) + 1 : Int).toNat * 1) _) = _
            rw [show ((a : Nat) + 1 : Int).toNat = a + 1 by omega, Nat.mul_one, Nat.mul_one, List.take_of_length_le (by rw [List.length_drop, List.length_map, List.length_map]; exact Nat.le_refl _)]
          have eb : (R.length - ((a : Nat) + 1 : Int).toNat) = (NL (R.drop (a + 1))).length := by rw [NL_len, List.length_drop]; omega
          rw [eb]
          refine appLk S (xs := NL (R.drop (a + 1))) (ys := NL (R.take a)) (.inr (.inr ⟨_, rfl, push_get⟩)) (by rw [NL_len, List.length_drop]; omega) (by first | decide | (rw [NL_len, List.length_take]; omega)) (by omega) fun v2 σ2 k2 q1 q2 hg2 hkp2 hbv => ?_
          have eNL : NL (R.take a) ++ NL (R.drop (a + 1)) = NL (R.take a ++ R.drop (a + 1)) := by unfold NL; rw [List.map_append]; try rfl
          rw [eNL] at hg2
          have hwl := (List.getElem?_eq_some_iff.1 hlv).1
          have hw2 := hkp2 _ _ (fun e => by have := Option.some.inj e; omega) (push_old hlv)
          obtain ⟨σ5, f5, -, f6, f7⟩ := hg2.cn.fz
          have hw5 := f7 _ _ (fun e => by
            rcases hbv _ e with e2 | e2
            · have := Option.some.inj e2; omega
            · rw [List.length_append, List.length_singleton] at e2; omega) hw2
          rw [NL_len] at f5
          refine ⟨⟨by omega, by omega⟩, ?_⟩
          exact ⟨R.length - 1, by omega, ⟨_, frzS_tmp (i := 5) rfl (f5 _ rfl), k + 1, R.take a ++ R.drop (a + 1), X ++ [y], _, σ5, _, _, rfl, ⟨rfl, rfl, rfl, rfl, rfl, rfl, trivial⟩, by rw [List.length_append, List.length_take, List.length_drop]; omega, by rw [List.length_append, List.length_take, List.length_drop]; omega, by omega, ⟨.inr (.inr ⟨_, rfl, hw5⟩), hperm⟩⟩⟩
      · have hlt' : (0 : Int) < ((R.length : Nat) : Int) := hlt
        have haR : 0 < R.length := by omega
        obtain ⟨y, hy⟩ : ∃ y, R[0]? = some y := ⟨_, List.getElem?_eq_getElem haR⟩
        have hy' : (NL R)[0]? = some (y : Int) := by unfold NL; rw [List.getElem?_map, hy]; rfl
        have hlen : ((NL R).map pn).length = R.length := by rw [List.length_map]; exact NL_len
        refine ⟨⟨⟨by omega, by omega⟩, by rw [hlen]; show _ * 1 ≤ _; omega⟩, _, ld (at_map hy') (by show _ * 1 = 0; omega), by omega, part1 fzI ⟨[pnn y], rfl, ?_⟩⟩
        refine appGu (f := pnn) (e := 3) (y := y) hg.push push_cont rfl rfl rfl rfl (by kernel_rfl) rfl rfl (by have := hp.length_eq; rw [List.length_append, List.length_range] at this; omega) (by omega) fun σ' hlv hkp => ?_
        have hperm : ((X ++ [y]) ++ (R.take 0 ++ R.drop (0 + 1))).Perm (List.range n) := by
          refine List.Perm.trans ?_ hp
          rw [List.append_assoc]
          refine List.Perm.append_left X ?_
          refine (List.perm_middle (a := y) (l₁ := R.take 0) (l₂ := R.drop (0 + 1))).symm.trans ?_
          have h3 := List.getElem?_eq_getElem haR
          rw [hy] at h3
          rw [Option.some.inj h3, List.getElem_cons_drop, List.take_append_drop]
        refine ⟨by kernel_rfl, ?_⟩
        have hNl : (NL R).length = R.length := NL_len
        have ea : ((0 : Int).toNat - 0) = (NL (R.take 0)).length := by rw [NL_len, List.length_take]; omega
        refine ⟨by rw [List.length_map]; show (NL R).length = R.length * 1; omega, ⟨by omega, by omega⟩, fun _ => rfl, (NL (R.take 0)).map pn, ?_, ?_⟩
        · unfold NL; rw [List.map_take, List.map_take]; show List.take ((_ - 0) * 1) (List.drop (0 * 1) _) = _; simp
        rw [ea]
        refine callqf rfl (copyInts0_cf S hS) (by omega) ?_
        rintro ty m cp e cs ⟨rfl, rfl, rfl, rfl, rfl⟩
        refine ⟨⟨by omega, by omega⟩, ?_⟩
        refine ⟨by rw [List.length_map]; show (NL R).length = R.length * 1; omega, ⟨by omega, by omega⟩, fun _ => rfl, (NL (R.drop (0 + 1))).map pn, ?_, ?_⟩
        · unfold NL; rw [List.map_drop, List.map_drop]; show List.take ((_ - (0 + 1 : Int).toNat) * 1) (List.drop ((0 + 1 : Int).toNat * 1) _) = _
          rw [show (0 + 1 : Int).toNat = 0 + 1 by omega, Nat.mul_one, Nat.mul_one, List.take_of_length_le (by rw [List.length_drop, List.length_map, List.length_map]; exact Nat.le_refl _)]
        have eb : (R.length - (0 + 1 : Int).toNat) = (NL (R.drop (0 + 1))).length := by rw [NL_len, List.length_drop]; omega
        rw [eb]
        refine appLk S (xs := NL (R.drop (0 + 1))) (ys := []) (v := .own σ'.length 0 0 0 1) (.inr (.inl ⟨_, rfl, push_get⟩)) (by rw [NL_len, List.length_drop]; omega) (by first | decide | (rw [NL_len, List.length_take]; omega)) (by omega) fun v2 σ2 k2 q1 q2 hg2 hkp2 hbv => ?_
        have eNL : [] ++ NL (R.drop (0 + 1)) = NL (R.take 0 ++ R.drop (0 + 1)) := by unfold NL; rw [List.map_append]; try rfl
        rw [eNL] at hg2
        have hwl := (List.getElem?_eq_some_iff.1 hlv).1
        have hw2 := hkp2 _ _ (fun e => by have := Option.some.inj e; omega) (push_old hlv)
        obtain ⟨σ5, f5, -, f6, f7⟩ := hg2.cn.fz
        have hw5 := f7 _ _ (fun e => by
          rcases hbv _ e with e2 | e2
          · have := Option.some.inj e2; omega
          · rw [List.length_append, List.length_singleton] at e2; omega) hw2
        rw [NL_len] at f5
        refine ⟨⟨by omega, by omega⟩, ?_⟩
        exact ⟨R.length - 1, by omega, ⟨_, frzS_tmp (i := 5) rfl (f5 _ rfl), k + 1, R.take 0 ++ R.drop (0 + 1), X ++ [y], _, σ5, _, _, rfl, ⟨rfl, rfl, rfl, rfl, rfl, rfl, trivial⟩, by rw [List.length_append, List.length_take, List.length_drop]; omega, by rw [List.length_append, List.length_take, List.length_drop]; omega, by omega, ⟨.inr (.inr ⟨_, rfl, hw5⟩), hperm⟩⟩⟩
    · have hR : R = [] := List.eq_nil_of_length_eq_zero (by omega)
      subst hR
      rw [List.append_nil] at hp
      obtain ⟨e, e', h1, h2⟩ := perm_isP hp
      obtain ⟨σ', hf⟩ := hg.fz
      exact endf hf ⟨e, e', h1, by rw [pIs_NL, h2]⟩
end Go.PI
/- THE ARGUMENTS of the law of renumbered origamis: a slice of bytes that came in. -/
open Go.Proofs
namespace Go.PI
open Go.ChangeShapes Go.WideShapes Go.ChangeAt Go.RowKit
open IM
set_option maxRecDepth 100000
set_option maxHeartbeats 4000000
theorem u8_is : (Sh.sl (.int .u8)).is Try.prog 76 = true := by kernel_rfl
theorem u8_bytes : ∀ css : List (List PV), (∀ c, c ∈ css → (Sh.int .u8).Has c) → ∃ bs : List Int, css.flatten = bs.map p8 ∧ bs.length = css.length ∧ ∀ b ∈ bs, 0 ≤ b ∧ b < 256
  | [], _ => ⟨[], rfl, rfl, fun b hb => by cases hb⟩
  | c :: css, h => by
    obtain ⟨bs, h1, h2, h3⟩ := u8_bytes css fun c hc => h c (by simp [hc])
    obtain ⟨n, hw, rfl⟩ := h c (by simp)
    have hn : 0 ≤ n ∧ n < 256 := by
      have hw : (decide (IntKind.u8.min ≤ n) && decide (n ≤ IntKind.u8.max)) = true := hw
      simp only [Bool.and_eq_true, decide_eq_true_eq] at hw
      have h1 : (0 : Int) ≤ n := hw.1
      have h2 : n ≤ 255 := hw.2
      omega
    refine ⟨n :: bs, ?_, by simp [h2], fun b hb => ?_⟩
    · rw [List.flatten_cons, h1]; rfl
    · rcases List.mem_cons.1 hb with rfl | hb
      · exact hn
      · exact h3 b hb
theorem imp_u8 {H : Type} {enc : TypeId × Value → H} {W : World} {μ : M} {Hp : Heap} (h : Imp W μ Hp) (hn : Hp.n + 2 < lim) {fuel : Nat} {v : Value} {y : DataW H × List MemPlace}
    (h1 : DataW.trod enc Try.prog W 0 (fun _ => true) true fuel 76 [v] = some y) :
    ∃ (μ' : M) (H' : Heap) (b : AV) (bs : List Int), Imp W μ' H' ∧ M.le μ μ' ∧ (∀ B, B < Hp.n → H'.get B = Hp.get B) ∧ Hp.n ≤ H'.n ∧ H'.n ≤ Hp.n + 1 ∧ VR μ' b v ∧ RelC H' (fun _ => False) (.lst bs.length (bs.map p8)) b ∧ ∀ b ∈ bs, 0 ≤ b ∧ b < 256 := by
  obtain ⟨μ1, H1, avs, ps, i1, l1, k1, n1, m1, va, ra, hq⟩ := lay_any (.sl (.int .u8)) fuel 76 [v] y u8_is h1 _ _ h (by show Hp.n + (0 * 100 + 1) < lim; omega)
  obtain ⟨n, cs, rfl, hnm, hcs⟩ := hq
  obtain ⟨css, hl, rfl, hh⟩ := hcs (.inl rfl)
  obtain ⟨bs, h2, h3, h4⟩ := u8_bytes css hh
  rw [h2, ← hl, ← h3] at ra
  cases ra with
  | cons r1 r2 =>
    cases r2
    cases va with
    | cons v1 v2 => exact ⟨μ1, H1, _, bs, i1, l1, k1, n1, m1, v1, r1, h4⟩
end Go.PI
/- THE LAW of maps. -/
open Go.Proofs
namespace Go.PI
open IM
set_option maxRecDepth 10000
set_option maxHeartbeats 4000000
variable (S : FuncId → Option (List AV → Heap → Option (AV × Heap)))
theorem fn31 : ctx.fn 31 = some c31 := by kernel_rfl
theorem isoM_ok (hS : OldO S) {r u r2 u2 : List Int} {n m : Nat} {f f' g g' F F' G G' : Nat → Nat} (ho : IsO r u n f f' g g') (ho2 : IsO r2 u2 m F F' G G') (hcn : Con2 n m f g F G) (hn20 : n ≤ 30) :
    Ct (ctx.plus S) 31 [pO r u, pO r2 u2] 80010 fun v => (mps n m f g F G m = [] ∧ v = .tup [.lst 0 [], pn 11]) ∨ ∃ x t, mps n m f g F G m = x :: t ∧ ((n ≠ m ∧ v = .tup [.lst 0 [], pn 11]) ∨ (n = m ∧ v = .tup [pIs x, pn 0])) := by
  have hl := ho.l1
  have hl2 := ho2.l1
  refine ct_of (hS 31 (by decide)) fn31 ?_
  refine ⟨by omega, by omega, ?_⟩
  refine ⟨_, rfl, ?_⟩
  refine ⟨_, rfl, ?_⟩
  refine callq rfl (covering_ok S hS ho ho2 hcn hn20) (by omega) ?_
  rintro _ (⟨h, rfl⟩ | ⟨x, t, h, rfl⟩)
  · refine ⟨fun h => absurd h (by decide), fun _ => ?_⟩
    exact endsq rfl (.inl ⟨h, rfl⟩)
  · refine ⟨fun _ => ?_, fun h => absurd rfl h⟩
    refine ⟨_, rfl, ?_⟩
    refine ⟨_, rfl, ?_⟩
    refine ⟨fun hne => ?_, fun heq => ?_⟩
    · exact ⟨⟨[], .inr ⟨x, t, h, .inl ⟨by omega, rfl⟩⟩⟩⟩
    · exact endsq rfl (.inr ⟨x, t, h, .inr ⟨by omega, rfl⟩⟩)
end Go.PI
/- slices.Reverse; the orders of vertices. -/
open Go.Proofs
namespace Go.PI
open IM
set_option maxRecDepth 20000
set_option maxHeartbeats 4000000
variable (S : FuncId → Option (List AV → Heap → Option (AV × Heap)))
def Rv (xs ys : List Int) (i : Nat) : Prop := ys.length = xs.length ∧ ∀ k, k < xs.length → ys[k]? = if k < i ∨ xs.length ≤ k + i then xs[xs.length - 1 - k]? else xs[k]?
theorem rv_zero (xs : List Int) : Rv xs xs 0 := ⟨rfl, fun k hk => by rw [if_neg (by omega)]⟩
theorem rv_end {xs ys : List Int} {i : Nat} (h : Rv xs ys i) (hi : xs.length ≤ 2 * i + 1) : ys = xs.reverse := by
  apply List.ext_getElem?
  intro k
  by_cases hk : k < xs.length
  · rw [h.2 k hk, List.getElem?_reverse hk]
    by_cases hc : k < i ∨ xs.length ≤ k + i
    · rw [if_pos hc]
    · rw [if_neg hc, show xs.length - 1 - k = k by omega]
  · rw [List.getElem?_eq_none (by rw [h.1]; omega), List.getElem?_eq_none (by simp; omega)]
theorem rv_step {xs ys : List Int} {i j : Nat} {x y : Int} (h : Rv xs ys i) (hj : j + i + 1 = xs.length) (hij : i < j) (hx : ys[i]? = some x) (hy : ys[j]? = some y) : Rv xs ((ys.set i y).set j x) (i + 1) := by
  refine ⟨by simp [h.1], fun k hk => ?_⟩
  have hxi := h.2 i (by omega)
  have hyj := h.2 j (by omega)
  rw [hx, if_neg (by omega)] at hxi
  rw [hy, if_neg (by omega)] at hyj
  rw [List.getElem?_set]
  by_cases e1 : j = k
  · subst e1
    rw [if_pos rfl, if_pos (by rw [List.length_set, h.1]; omega), if_pos (by omega), hxi]
    congr 1
    omega
  · rw [if_neg e1, List.getElem?_set]
    by_cases e2 : i = k
    · subst e2
      rw [if_pos rfl, if_pos (by rw [h.1]; omega), if_pos (by omega), hyj]
      congr 1
      omega
    · rw [if_neg e2, h.2 k hk]
      by_cases hc : k < i ∨ xs.length ≤ k + i
      · rw [if_pos hc, if_pos (by omega)]
      · rw [if_neg hc, if_neg (by omega)]
theorem rv_same {α : Type} {l : List α} {j : Nat} {x : α} (h : l[j]? = some x) : l.set j x = l := by
  obtain ⟨h1, rfl⟩ := List.getElem?_eq_some_iff.1 h
  exact List.set_getElem_self h1
theorem fn125 : ctx.fn 125 = some c125 := by kernel_rfl
theorem reverse_cm (hS : OldO S) {σ : List StB} {jv n : Nat} {xs : List Int} {v : PV} (hv : v = .own jv 0 n n 1 ∨ v = .ownu jv n 1) (hj : σ[jv]? = some (.live 3 (xs.map pn))) (hl : xs.length = n) (hn : n ≤ 1000) :
    Cm (ctx.plus S) 125 [v] σ 0 fun w σ' => w = .tup [] ∧ σ' = σ.set jv (.live 3 (xs.reverse.map pn)) := by
  refine cm_of Opn.no (hS 125 (by decide)) fn125 fun c k0 hc => ?_
  have hjl := (List.getElem?_eq_some_iff.1 hj).1
  rcases hv with rfl | rfl
  · refine ⟨⟨by omega, by omega⟩, ?_⟩
    refine ⟨fun q s => ∃ (i : Nat) (j : Int) (zs : List Int) (T : List PV), s = ⟨T, σ.set jv (.live 3 (zs.map pn)), k0⟩ ∧ Gt T 28 [(0, .own jv 0 n n 1), (2, pn i), (3, pn j)] ∧ q = n - i ∧ (j = n - 1 - i ∧ i ≤ n) ∧ Hid (Rv xs zs i), ⟨_, ci ⟨0, _, xs, _, by rw [rv_same hj], ⟨rfl, rfl, rfl, rfl, trivial⟩, rfl, ⟨by omega, by omega⟩, ⟨rv_zero xs⟩⟩⟩, ?_⟩
    rintro q s ⟨i, j, zs, T, rfl, hT, hq, ⟨hji, hin⟩, hR⟩
    obtain ⟨J, rfl⟩ := gt_open hT
    clear hT
    have hzl : zs.length = n := by rw [hR.h.1]; exact hl
    have hat : (σ.set jv (.live 3 (zs.map pn)))[jv]? = some (.live 3 (zs.map pn)) := List.getElem?_set_self hjl
    have hc1 := contOf_live hat
    refine ⟨fun hlt => ?_, fun hge => ?_⟩
    · obtain ⟨m, rfl⟩ : ∃ m : Nat, j = m := ⟨j.toNat, by omega⟩
      obtain ⟨x, hx⟩ := xs_get (xs := zs) (i := i) (by omega)
      obtain ⟨y, hy⟩ := xs_get (xs := zs) (i := m) (by omega)
      refine ⟨by kernel_rfl, ?_⟩
      refine ⟨⟨by omega, by omega⟩, ?_⟩
      refine ⟨_, load_k rfl rfl hc1 (at_map hy) (by show 0 + _ * 1 = m; omega), rfl, ?_⟩
      refine ⟨⟨by omega, by omega⟩, ?_⟩
      refine ⟨_, load_k rfl rfl hc1 (at_map hx) (by show 0 + _ * 1 = i; omega), rfl, ?_⟩
      refine ⟨⟨by omega, by omega⟩, ?_⟩
      refine ⟨_, _, hat, ⟨rfl, by rw [List.length_map]; show 0 + (i : Int).toNat * 1 + 1 ≤ _; omega, rfl⟩, _, int_put (j := i) (by show 0 + _ * 1 = i; omega) (by omega), _, rfl, ?_⟩
      refine ⟨⟨by omega, by omega⟩, ?_⟩
      refine ⟨_, _, List.getElem?_set_self (by rw [List.length_set]; exact hjl), ⟨rfl, by rw [List.length_map, List.length_set]; show 0 + (m : Int).toNat * 1 + 1 ≤ _; omega, rfl⟩, _, int_put (j := m) (by show 0 + _ * 1 = m; omega) (by rw [List.length_set]; omega), _, by rw [List.set_set, List.set_set], ?_⟩
      refine ⟨⟨by omega, by omega⟩, ?_⟩
      refine ⟨⟨by omega, by omega⟩, ?_⟩
      exact ⟨_, by omega, ci ⟨i + 1, (m : Int) - 1, _, _, rfl, ⟨rfl, rfl, by show pn _ = pn _; norm_cast, rfl, trivial⟩, rfl, ⟨by omega, by omega⟩, ⟨rv_step hR.h (by omega) (by omega) hx hy⟩⟩⟩
    · have he := rv_end hR.h (by omega)
      refine endm [] (by dsimp only; omega) ?_
      rw [he]
      exact ⟨rfl, rfl⟩
  · refine ⟨⟨by omega, by omega⟩, ?_⟩
    refine ⟨fun q s => ∃ (i : Nat) (j : Int) (zs : List Int) (T : List PV), s = ⟨T, σ.set jv (.live 3 (zs.map pn)), k0⟩ ∧ Gt T 28 [(0, .ownu jv n 1), (2, pn i), (3, pn j)] ∧ q = n - i ∧ (j = n - 1 - i ∧ i ≤ n) ∧ Hid (Rv xs zs i), ⟨_, ci ⟨0, _, xs, _, by rw [rv_same hj], ⟨rfl, rfl, rfl, rfl, trivial⟩, rfl, ⟨by omega, by omega⟩, ⟨rv_zero xs⟩⟩⟩, ?_⟩
    rintro q s ⟨i, j, zs, T, rfl, hT, hq, ⟨hji, hin⟩, hR⟩
    obtain ⟨J, rfl⟩ := gt_open hT
    clear hT
    have hzl : zs.length = n := by rw [hR.h.1]; exact hl
    have hat : (σ.set jv (.live 3 (zs.map pn)))[jv]? = some (.live 3 (zs.map pn)) := List.getElem?_set_self hjl
    have hc1 := contOf_live hat
    refine ⟨fun hlt => ?_, fun hge => ?_⟩
    · obtain ⟨m, rfl⟩ : ∃ m : Nat, j = m := ⟨j.toNat, by omega⟩
      obtain ⟨x, hx⟩ := xs_get (xs := zs) (i := i) (by omega)
      obtain ⟨y, hy⟩ := xs_get (xs := zs) (i := m) (by omega)
      refine ⟨by kernel_rfl, ?_⟩
      refine ⟨⟨by omega, by omega⟩, ?_⟩
      refine ⟨_, load_k rfl rfl hc1 (at_map hy) (by show 0 + _ * 1 = m; omega), rfl, ?_⟩
      refine ⟨⟨by omega, by omega⟩, ?_⟩
      refine ⟨_, load_k rfl rfl hc1 (at_map hx) (by show 0 + _ * 1 = i; omega), rfl, ?_⟩
      refine ⟨⟨by omega, by omega⟩, ?_⟩
      refine ⟨_, _, hat, ⟨rfl, by rw [List.length_map]; show 0 + (i : Int).toNat * 1 + 1 ≤ _; omega, rfl⟩, _, int_put (j := i) (by show 0 + _ * 1 = i; omega) (by omega), _, rfl, ?_⟩
      refine ⟨⟨by omega, by omega⟩, ?_⟩
      refine ⟨_, _, List.getElem?_set_self (by rw [List.length_set]; exact hjl), ⟨rfl, by rw [List.length_map, List.length_set]; show 0 + (m : Int).toNat * 1 + 1 ≤ _; omega, rfl⟩, _, int_put (j := m) (by show 0 + _ * 1 = m; omega) (by rw [List.length_set]; omega), _, by rw [List.set_set, List.set_set], ?_⟩
      refine ⟨⟨by omega, by omega⟩, ?_⟩
      refine ⟨⟨by omega, by omega⟩, ?_⟩
      exact ⟨_, by omega, ci ⟨i + 1, (m : Int) - 1, _, _, rfl, ⟨rfl, rfl, by show pn _ = pn _; norm_cast, rfl, trivial⟩, rfl, ⟨by omega, by omega⟩, ⟨rv_step hR.h (by omega) (by omega) hx hy⟩⟩⟩
    · have he := rv_end hR.h (by omega)
      refine endm [] (by dsimp only; omega) ?_
      rw [he]
      exact ⟨rfl, rfl⟩
theorem reverse_nil (hS : OldO S) {σ : List StB} : Cm (ctx.plus S) 125 [.nils] σ 0 fun w σ' => w = .tup [] ∧ σ' = σ := by
  refine cm_of Opn.no (hS 125 (by decide)) fn125 fun c k0 hc => ?_
  refine ⟨⟨by omega, by omega⟩, ?_⟩
  refine ⟨fun q s => ∃ (T : List PV), s = ⟨T, σ, k0⟩ ∧ Gt T 28 [(0, .nils), (2, pn 0), (3, pn (-1))] ∧ q = 0, ⟨_, ci ⟨_, rfl, ⟨rfl, rfl, rfl, rfl, trivial⟩, rfl⟩⟩, ?_⟩
  rintro q s ⟨T, rfl, hT, hq⟩
  obtain ⟨J, rfl⟩ := gt_open hT
  clear hT
  refine ⟨fun hlt => absurd hlt (by decide), fun hge => ?_⟩
  refine endm [] (by dsimp only; omega) ?_
  exact ⟨rfl, rfl⟩
def ords (M : List (List Int)) : List Int := M.map fun l => (l.length : Int) - 1
theorem acc_count {n : Nat} {M : List (List Int)} {v : Nat} : ∀ {j : Nat}, j ≤ n + 1 → (accTo n M j).count (v : Int) = if v ≤ n ∧ n < v + j then cntI M (v + 1) else 0
  | 0, _ => by rw [if_neg (by omega)]; rfl
  | j + 1, hj => by
    rw [acc_succ, List.count_append, acc_count (by omega), List.count_replicate]
    by_cases e : v = n - j
    · rw [if_neg (by omega), if_pos (by simp; omega), if_pos (by omega), Nat.zero_add, e]
    · rw [if_neg (show ¬ ((((n - j : Nat) : Int) == (v : Int)) = true) by simp; omega), Nat.add_zero]
      by_cases e2 : v ≤ n ∧ n < v + j
      · rw [if_pos e2, if_pos (by omega)]
      · rw [if_neg e2, if_neg (by omega)]
theorem acc_nonneg {n : Nat} {M : List (List Int)} {j : Nat} {x : Int} (h : x ∈ accTo n M j) : ∃ i, i < j ∧ x = ((n - i : Nat) : Int) := by
  unfold accTo at h
  obtain ⟨i, hi, hx⟩ := List.mem_flatMap.1 h
  exact ⟨i, List.mem_range.1 hi, List.eq_of_mem_replicate hx⟩
theorem ords_count {M : List (List Int)} {v : Nat} : (ords M).count (v : Int) = cntI M (v + 1) := by
  unfold ords cntI
  rw [List.count_eq_length_filter, List.filter_map, List.length_map]
  congr 1
  apply List.filter_congr
  intro l _
  simp only [Function.comp]
  by_cases h : l.length = v + 1
  · simp [h]
  · simp [h]; omega
theorem acc_perm {n : Nat} {M : List (List Int)} (h : ∀ l ∈ M, l.length ≤ n ∧ 0 < l.length) : (accTo n M (n + 1)).Perm (ords M) := by
  rw [List.perm_iff_count]
  intro x
  by_cases hx : 0 ≤ x ∧ x ≤ n
  · obtain ⟨v, rfl⟩ : ∃ v : Nat, x = v := ⟨x.toNat, by omega⟩
    rw [acc_count (Nat.le_refl _), if_pos (by omega), ords_count]
  · rw [List.count_eq_zero.2, List.count_eq_zero.2]
    · intro hm
      obtain ⟨l, hl, rfl⟩ := List.mem_map.1 hm
      have := h l hl
      omega
    · intro hm
      obtain ⟨i, hi, rfl⟩ := acc_nonneg hm
      omega
theorem acc_pw {n : Nat} {M : List (List Int)} : ∀ {j : Nat}, j ≤ n + 1 → (accTo n M j).Pairwise fun a b => b ≤ a
  | 0, _ => List.Pairwise.nil
  | j + 1, hj => by
    rw [acc_succ]
    refine List.pairwise_append.2 ⟨acc_pw (by omega), ?_, fun a ha b hb => ?_⟩
    · rw [List.pairwise_replicate]; exact .inr (Int.le_refl _)
    · obtain ⟨i, hi, rfl⟩ := acc_nonneg ha
      rw [List.eq_of_mem_replicate hb]
      omega
theorem ords_sorted {n : Nat} {M : List (List Int)} {zs : List Int} (h : ∀ l ∈ M, l.length ≤ n ∧ 0 < l.length) (hp : zs.Perm (ords M)) (hs : Srt zs zs.length) : zs.reverse = accTo n M (n + 1) := by
  have h1 : zs.reverse.Perm (accTo n M (n + 1)) := (List.reverse_perm zs).trans (hp.trans (acc_perm h).symm)
  have h2 : zs.Pairwise (· ≤ ·) := by
    rw [List.pairwise_iff_getElem]
    intro i j hi hj hij
    exact hs i j hij hj _ _ (List.getElem?_eq_getElem hi) (List.getElem?_eq_getElem hj)
  have h3 : zs.reverse.Pairwise fun a b => b ≤ a := List.pairwise_reverse.2 h2
  exact List.Perm.eq_of_pairwise (le := fun a b : Int => b ≤ a) (fun a b _ _ h1 h2 => by omega) h3 (acc_pw (Nat.le_refl _)) h1
end Go.PI
