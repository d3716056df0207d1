/- Own work of the verifier: PvUse PvBd PvVala PvProg. -/
import Derived.Test.YtgmhmahdmbdngaaGreatDoorGvAW
set_option linter.all false
set_option linter.deprecated false
namespace Go.PI
def Fz (v : PV) (σ : List StB) (p : PV) (σ' : List StB) : Prop := ∀ K : PV -> List StB -> Prop, K p σ' -> frzAK σ v K
theorem fzL {n : Nat} {cs : List PV} {σ : List StB} : Fz (.lst n cs) σ (.lst n cs) σ := fun _ h => h
theorem fzN {σ : List StB} : Fz .nils σ (.lst 0 []) σ := fun _ h => h
theorem fzI {k : IntKind} {n : Int} {σ : List StB} : Fz (.int k n) σ (.int k n) σ := fun _ h => h
def Fzs (v : PV) (σ : List StB) (p : PV) : Prop := ∃ σ', Fz v σ p σ' /\ Fz v σ' p σ' /\ (∀ i, contOf σ' i = contOf σ i) /\ σ'.length = σ.length
theorem fzs_own {i n c e : Nat} {σ : List StB} {ty : TypeId} {cs cs' : List PV} (h : contOf σ i = some (ty, cs)) (hl : n * e <= cs.length) (hc : n <= c) (ht : cs.take (n * e) = cs') : Fzs (.own i 0 n c e) σ (.lst n cs') := by
 have h2 := contOf_set h
 refine ⟨σ.set i (.frz ty cs), fun K hK => ⟨ty, cs, cs', h, by omega, by simpa using ht, hK⟩, fun K hK => ⟨ty, cs, cs', by rw [h2]; exact h, by omega, by simpa using ht, ?_⟩, h2, by simp⟩
 rw [List.set_set]
 exact hK
theorem fzs_any {v p : PV} (h : ∀ σ, Fz v σ p σ) {σ : List StB} : Fzs v σ p := ⟨σ, h σ, h σ, fun _ => rfl, rfl⟩
variable {dr : Bool} {C : Ctx} {c k d : Nat} {σ σ1 σ2 σ3 : List StB} {g : FuncId} {K : PV -> List StB -> Nat -> Prop} {Q : PV -> Prop}
theorem callc {ps : List PV} (h : Ct C g ps d Q) (hk : k + d <= c) (hK : ∀ r, Q r -> K r σ (k + d)) : pcallK C c k σ g ps K := ⟨⟨d, hk, .inl ⟨Q, h, hK⟩⟩⟩
def clo : PV -> Bool
 | .lst _ _ | .int _ _ | .bool _ | .str _ | .nilp | .nilf | .nili | .fn _ | .lptr _ => true
 | _ => false
def clos : List PV -> Bool
 | [] => true
 | p :: ps => clo p && clos ps
theorem frzK_clo {p : PV} (h : clo p = true) {K : PV -> List StB -> Prop} (hK : K p σ) : frzK σ p K := by
 cases p <;> first | exact hK | cases h
theorem frzsK_clo : ∀ {ps : List PV} {K : List PV -> List StB -> Prop}, clos ps = true -> K ps σ -> frzsK σ ps K
 | [], K, _, h => h
 | p :: ps, K, hc, h => by
  simp only [clos, Bool.and_eq_true] at hc
  exact frzK_clo hc.1 (frzsK_clo hc.2 h)
def cloA : PV -> Bool
 | .agg cs => clos cs
 | p => clo p
theorem frzAK_clo {p : PV} (h : cloA p = true) {K : PV -> List StB -> Prop} (hK : K p σ) : frzAK σ p K := by
 cases p <;> simp only [cloA, clo] at h <;> first | cases h; done | exact hK | skip
 exact frzsK_clo h hK
def cloAs : List PV -> Bool
 | [] => true
 | p :: ps => cloA p && cloAs ps
theorem frzAsK_clo : ∀ {ps : List PV} {K : List PV -> List StB -> Prop}, cloAs ps = true -> K ps σ -> frzAsK σ ps K
 | [], K, _, h => h
 | p :: ps, K, hc, h => by
  simp only [cloAs, Bool.and_eq_true] at hc
  exact frzAK_clo hc.1 (frzAsK_clo hc.2 h)
theorem callq {ps : List PV} (hc : cloAs ps = true) (h : Ct C g ps d Q) (hk : k + d <= c) (hK : ∀ r, Q r -> K r σ (k + d)) : ArgK dr C c k σ g ps K := ⟨.inl (frzAsK_clo hc (callc h hk hK))⟩
theorem callqf {ps : List PV} {Q : TypeId -> Nat -> Nat -> Nat -> List PV -> Prop} (hc : cloAs ps = true) (h : Cfr C g ps d Q) (hk : k + d <= c) (hK : ∀ ty n cp e cs, Q ty n cp e cs -> K (.own σ.length 0 n cp e) (σ ++ [.live ty cs]) (k + d)) : ArgK dr C c k σ g ps K := ⟨.inl (frzAsK_clo hc ⟨⟨d, hk, .inr ⟨Q, h, hK⟩⟩⟩)⟩
theorem cal1 {v p : PV} (h1 : Fz v σ p σ1) (h : Ct C g [p] d Q) (hk : k + d <= c) (hK : ∀ r, Q r -> K r σ1 (k + d)) : ArgK dr C c k σ g [v] K := ⟨.inl (h1 _ (callc h hk hK))⟩
theorem cal2 {v w p q : PV} (h1 : Fz v σ p σ1) (h2 : Fz w σ1 q σ2) (h : Ct C g [p, q] d Q) (hk : k + d <= c) (hK : ∀ r, Q r -> K r σ2 (k + d)) : ArgK dr C c k σ g [v, w] K :=
 ⟨.inl (h1 _ (h2 _ (callc h hk hK)))⟩
theorem cal3 {v w u p q r : PV} (h1 : Fz v σ p σ1) (h2 : Fz w σ1 q σ2) (h3 : Fz u σ2 r σ3) (h : Ct C g [p, q, r] d Q) (hk : k + d <= c) (hK : ∀ r, Q r -> K r σ3 (k + d)) : ArgK dr C c k σ g [v, w, u] K :=
 ⟨.inl (h1 _ (h2 _ (h3 _ (callc h hk hK))))⟩
theorem calb {v p : PV} {ps : List PV} (h1 : ∀ K : PV -> List StB -> Prop, K p σ -> lendK σ v K) (hc : cloAs ps = true) (hn : ∀ q ∈ ps, (match q with | .lptr _ => false | _ => true) = true) (h : Cb C g (p :: ps) d Q) (hk : k + d <= c) (hK : ∀ r, Q r -> K r σ (k + d)) : ArgK dr C c k σ g (v :: ps) K := by
 refine ⟨.inr (.inl (h1 _ ?_))⟩
 have key : ∀ (ps : List PV) (K : List PV -> List StB -> Prop), cloAs ps = true -> (∀ q ∈ ps, (match q with | .lptr _ => false | _ => true) = true) -> K ps σ -> lendsK σ ps K := by
  intro ps
  induction ps with
  | nil => exact fun K _ _ h => h
  | cons q qs ih =>
   intro K hc hn hK
   simp only [cloAs, Bool.and_eq_true] at hc
   have h2 := hn q (by simp)
   have h3 : lendsK σ qs fun ps' σ'' => K (q :: ps') σ'' := ih _ hc.2 (fun r hr => hn r (by simp [hr])) hK
   have h4 : frzAK σ q fun p' σ' => lendsK σ' qs fun ps' σ'' => K (p' :: ps') σ'' := frzAK_clo hc.1 h3
   show lendK σ q _
   unfold lendK
   split
   ·cases hc.1
   ·cases hc.1
   ·cases h2
   ·exact h4
 exact key ps _ hc hn ⟨d, Q, hk, h, hK⟩
theorem lend_own {i : Nat} {ty : TypeId} {cs : List PV} (h : contOf σ i = some (ty, cs)) : ∀ K : PV -> List StB -> Prop, K (.bptr cs) σ -> lendK σ (.optr i 0) K := fun K hK => ⟨ty, cs, h, Nat.zero_le _, hK⟩
theorem lend_b {cs : List PV} : ∀ K : PV -> List StB -> Prop, K (.bptr cs) σ -> lendK σ (.bptr cs) K := fun K hK => hK
theorem endq {p : PV} {Q : PV -> Prop} (h : cloA p = true) (hq : Q p) : EndK σ p Q := ⟨⟨[], show frzAK σ p fun r _ => Q r from frzAK_clo h hq⟩⟩
theorem endf {v p : PV} {Q : PV -> Prop} (h : Fz v σ p σ1) (hq : Q p) : EndK σ v Q := ⟨⟨[], show frzAK σ v fun r _ => Q r from h _ hq⟩⟩
theorem endsq {ps : List PV} {Q : PV -> Prop} (h : cloAs ps = true) (hq : Q (.tup ps)) : EndsK σ ps Q := ⟨⟨[], show frzAsK σ ps fun rs _ => Q (.tup rs) from frzAsK_clo h hq⟩⟩
/-! ### A slice that grows by append -/
theorem contOf_live {σ : List StB} {j : Nat} {t : TypeId} {cs : List PV} (h : σ[j]? = some (.live t cs)) : contOf σ j = some (t, cs) := by unfold contOf; rw [h]; rfl
def Gr {α : Type} (f : α -> PV) (e : TypeId) (v : PV) (σ : List StB) (Xs : List α) : Prop :=
 (v = .nils /\ Xs = []) ∨ (∃ j ty, v = .own j 0 Xs.length Xs.length 1 /\ contOf σ j = some (ty, Xs.map f)) ∨ (∃ j, v = .ownu j Xs.length 1 /\ σ[j]? = some (.live e (Xs.map f)))
theorem Gr.nil {α : Type} {f : α -> PV} {e : TypeId} {σ : List StB} : Gr f e .nils σ [] := .inl ⟨rfl, rfl⟩
theorem Gr.fz {α : Type} {f : α -> PV} {e : TypeId} {v : PV} {σ : List StB} {Xs : List α} (h : Gr f e v σ Xs) : ∃ σ', Fz v σ (.lst Xs.length (Xs.map f)) σ' := by
 rcases h with ⟨rfl, rfl⟩ | ⟨j, ty, rfl, h⟩ | ⟨j, rfl, h⟩
 ·exact ⟨σ, fzN⟩
 ·exact ⟨_, fun K hK => ⟨ty, _, _, h, ⟨by simp, by omega⟩, by rw [List.drop_zero, List.take_of_length_le (by simp)], hK⟩⟩
 ·exact ⟨_, fun K hK => ⟨e, _, _, contOf_live h, ⟨by simp, fun _ => rfl⟩, by rw [List.take_of_length_le (by simp)], hK⟩⟩
theorem contOf_lt {σ : List StB} {j : Nat} {x : TypeId × List PV} (h : contOf σ j = some x) : j < σ.length := by
 unfold contOf at h
 cases hj : σ[j]? with
 | none => rw [hj] at h; cases h
 | some y => exact (List.getElem?_eq_some_iff.1 hj).1
theorem contOf_app {σ : List StB} {b : StB} {j : Nat} {x : TypeId × List PV} (h : contOf σ j = some x) : contOf (σ ++ [b]) j = some x := by
 have hj := contOf_lt h
 unfold contOf at h ⊢
 rw [List.getElem?_append_left hj]
 exact h
theorem Gr.push {α : Type} {f : α -> PV} {e : TypeId} {v : PV} {σ : List StB} {Xs : List α} {b : StB} (h : Gr f e v σ Xs) : Gr f e v (σ ++ [b]) Xs := by
 rcases h with ⟨rfl, rfl⟩ | ⟨j, ty, rfl, h⟩ | ⟨j, rfl, h⟩
 ·exact .inl ⟨rfl, rfl⟩
 ·exact .inr (.inl ⟨j, ty, rfl, contOf_app h⟩)
 ·exact .inr (.inr ⟨j, rfl, by rw [List.getElem?_append_left (List.getElem?_eq_some_iff.1 h).1]; exact h⟩)
def blkOf : PV -> Option Nat
 | .own j _ _ _ _ => some j
 | .ownu j _ _ => some j
 | _ => none
theorem Gr.keep {α : Type} {f : α -> PV} {e : TypeId} {v : PV} {σ σ' : List StB} {Xs : List α} (h : Gr f e v σ Xs) (k : ∀ j b, blkOf v = some j -> σ[j]? = some b -> σ'[j]? = some b) : Gr f e v σ' Xs := by
 rcases h with ⟨rfl, rfl⟩ | ⟨j, ty, rfl, h⟩ | ⟨j, rfl, h⟩
 ·exact .inl ⟨rfl, rfl⟩
 ·refine .inr (.inl ⟨j, ty, rfl, ?_⟩)
  unfold contOf at h ⊢
  cases hj : σ[j]? with
  | none => rw [hj] at h; cases h
  | some y => rw [hj] at h; rw [k j y rfl hj]; exact h
 ·exact .inr (.inr ⟨j, rfl, k j _ rfl h⟩)
theorem Gr.blk {α : Type} {f : α -> PV} {e : TypeId} {v : PV} {σ : List StB} {Xs : List α} (h : Gr f e v σ Xs) {j : Nat} (hj : blkOf v = some j) : j < σ.length := by
 rcases h with ⟨rfl, rfl⟩ | ⟨j', ty, rfl, h⟩ | ⟨j', rfl, h⟩
 ·cases hj
 ·cases hj; exact contOf_lt h
 ·cases hj; exact (List.getElem?_eq_some_iff.1 h).1
def Cn {α : Type} (f : α -> PV) (v : PV) (σ : List StB) (Xs : List α) : Prop :=
 (v = .nils /\ Xs = []) ∨ ∃ j ty, contOf σ j = some (ty, Xs.map f) /\ (v = .own j 0 Xs.length Xs.length 1 ∨ v = .ownu j Xs.length 1)
theorem Gr.cn {α : Type} {f : α -> PV} {e : TypeId} {v : PV} {σ : List StB} {Xs : List α} (h : Gr f e v σ Xs) : Cn f v σ Xs := by
 rcases h with h | ⟨j, ty, rfl, h⟩ | ⟨j, rfl, h⟩
 ·exact .inl h
 ·exact .inr ⟨j, ty, h, .inl rfl⟩
 ·exact .inr ⟨j, e, contOf_live h, .inr rfl⟩
theorem Cn.same {α : Type} {f : α -> PV} {v : PV} {σ σ' : List StB} {Xs : List α} (h : Cn f v σ Xs) (k : ∀ j, contOf σ' j = contOf σ j) : Cn f v σ' Xs := by
 rcases h with h | ⟨j, ty, h, h2⟩
 ·exact .inl h
 ·exact .inr ⟨j, ty, by rw [k]; exact h, h2⟩
theorem Cn.push {α : Type} {f : α -> PV} {v : PV} {σ : List StB} {Xs : List α} {b : StB} (h : Cn f v σ Xs) : Cn f v (σ ++ [b]) Xs := by
 rcases h with h | ⟨j, ty, h, h2⟩
 ·exact .inl h
 ·exact .inr ⟨j, ty, contOf_app h, h2⟩
theorem Cn.fz {α : Type} {f : α -> PV} {v : PV} {σ : List StB} {Xs : List α} (h : Cn f v σ Xs) : ∃ σ', Fz v σ (.lst Xs.length (Xs.map f)) σ' /\ (∀ j, contOf σ' j = contOf σ j) /\ σ'.length = σ.length /\ ∀ j b, blkOf v ≠ some j -> σ[j]? = some b -> σ'[j]? = some b := by
 rcases h with ⟨rfl, rfl⟩ | ⟨j, ty, h, rfl | rfl⟩
 ·exact ⟨σ, fzN, fun _ => rfl, rfl, fun _ _ _ h => h⟩
 ·refine ⟨_, fun K hK => ⟨ty, _, _, h, ⟨by simp, by omega⟩, by rw [List.drop_zero, List.take_of_length_le (by simp)], hK⟩, contOf_set h, by simp, fun j' b hj hb => ?_⟩
  rw [List.getElem?_set_ne (fun e => hj (by rw [← e]; rfl))]; exact hb
 ·refine ⟨_, fun K hK => ⟨ty, _, _, h, ⟨by simp, fun _ => rfl⟩, by rw [List.take_of_length_le (by simp)], hK⟩, contOf_set h, by simp, fun j' b hj hb => ?_⟩
  rw [List.getElem?_set_ne (fun e => hj (by rw [← e]; rfl))]; exact hb
theorem part1 {v p : PV} {i : Nat} {K : List (Nat × PV) -> List StB -> Prop} (h1 : Fz v σ p σ1) (hK : K [(i, p)] σ1) : PartK σ [(i, v)] K := ⟨h1 _ hK⟩
theorem part2 {v w p q : PV} {i j : Nat} {K : List (Nat × PV) -> List StB -> Prop} (h1 : Fz v σ p σ1) (h2 : Fz w σ1 q σ2) (hK : K [(i, p), (j, q)] σ2) : PartK σ [(i, v), (j, w)] K := ⟨h1 _ (h2 _ hK)⟩
theorem appG {α : Type} {f : α -> PV} {e t tx : TypeId} {rest : List TypeId} {v : PV} {Xs : List α} {y : α} {i m : Nat} {ty : TypeId} {σ : List StB} {ti xi ei : TI} (hg : Gr f e v σ Xs) (hx : contOf σ i = some (ty, [f y])) (ht : C.ty t = some ti) (htd : ti.desc = .slice e) (htx : C.ty tx = some xi) (he : C.ty e = some ei) (hd : decide (srcOk xi.desc = true /\ ei.bytes <= 2 ^ 10) = true) (hs : ei.size = 1) (ho : (f y).one = true)
  (hl : Xs.length <= 1000000) (hk : k < c) (hK : ∀ v' σ', Gr f e v' σ' (Xs ++ [y]) -> (∀ j b, blkOf v ≠ some j -> σ[j]? = some b -> σ'[j]? = some b) -> blkOf v' = some σ.length -> K v' σ' (k + 1)) : AppK C c k σ (t :: tx :: rest) v (.own i 0 1 1 m) K := by
 refine ⟨?_⟩
 obtain ⟨desc, sz, by', z⟩ := ti
 simp only at htd
 subst htd
 unfold pappK
 simp only [ht, htx, he, hd]
 have hxi := contOf_lt hx
 refine ⟨ty, [f y], [f y], hx, by rw [hs]; simp, by rw [hs]; rfl, ⟨by decide, by simp [pones, ho]⟩, ?_⟩
 have hnew : ∀ {σ' : List StB}, σ'.length = σ.length -> Gr f e (.ownu σ.length (Xs.length + 1) 1) (σ' ++ [.live e (Xs.map f ++ [f y])]) (Xs ++ [y]) := fun {σ'} h =>
  .inr (.inr ⟨σ.length, by simp, by rw [← h]; simp⟩)
 have hold : ∀ {b : StB} {j : Nat} {x : StB}, σ[j]? = some x -> (σ ++ [b])[j]? = some x := fun h => by rw [List.getElem?_append_left (List.getElem?_eq_some_iff.1 h).1]; exact h
 rcases hg with ⟨rfl, rfl⟩ | ⟨j, ty2, rfl, h⟩ | ⟨j, rfl, h⟩
 ·refine ⟨(fun h => by cases h), fun _ => ⟨hk, ?_⟩⟩
  rw [hs]
  exact hK _ _ (hnew rfl) (fun j b _ hb => hold hb) rfl
 ·refine ⟨by omega, (fun h => by omega), fun _ => ⟨hk, ty2, Xs.map f, Xs.map f ++ [f y], h, by rw [hs]; simp, by rw [hs, List.drop_zero, List.take_of_length_le (by simp)], ?_⟩⟩
  rw [hs]
  exact hK _ _ (hnew rfl) (fun j b _ hb => hold hb) rfl
 ·refine ⟨⟨by omega, hs.symm, hk⟩, Xs.map f, Xs.map f ++ [f y], h, by rw [hs]; simp, by rw [hs, List.take_of_length_le (by simp)], ?_⟩
  refine hK _ _ (hnew (by simp)) (fun j' b hj hb => ?_) rfl
  have hne : j ≠ j' := fun e => hj (by rw [← e]; rfl)
  rw [List.getElem?_append_left (by rw [List.length_set]; exact (List.getElem?_eq_some_iff.1 hb).1), List.getElem?_set_ne hne]
  exact hb
theorem pexpand (T : List PV) : T = (List.range T.length).map fun i => T.getD i undefP := by
 apply List.ext_getElem?
 intro i
 simp only [List.getElem?_map, List.getD_eq_getElem?_getD]
 by_cases h : i < T.length
 ·simp [h]
 ·simp [h]
/-! ### A slice that is filled, one element after the other -/
section
variable {α : Type}
def fillc (f : α -> PV) (z : PV) (n : Nat) (L : List α) : List PV := L.map f ++ List.replicate (n - L.length) z
variable {f : α -> PV} {z : PV} {n q : Nat} {L : List α} {x y : α}
theorem fillc_zero : (List.replicate n [z]).flatten = fillc f z n [] := by simp [fillc, List.flatten_replicate_singleton]
theorem fillc_len (h : L.length <= n) : (fillc f z n L).length = n := by simp [fillc]; omega
theorem fillc_next (h : L.length < n) (hq : q = L.length) : pspl (fillc f z n L) q [f x] = fillc f z n (L ++ [x]) := by
 subst hq
 obtain ⟨m, hm⟩ : ∃ m, n - L.length = m + 1 := ⟨n - L.length - 1, by omega⟩
 have hm2 : n - (L ++ [x]).length = m := by simp; omega
 unfold pspl fillc
 rw [hm, hm2, List.take_left' (by simp), List.drop_append]
 simp [List.replicate_succ]
theorem fillc_again (h : L.length < n) (hq : q = L.length) : pspl (fillc f z n (L ++ [x])) q [f y] = fillc f z n (L ++ [y]) := by
 subst hq
 unfold pspl fillc
 simp only [List.map_append, List.map_cons, List.map_nil, List.length_append, List.length_singleton, List.append_assoc]
 rw [List.take_left' (by simp), List.drop_append]
 simp
theorem fillc_full (h : L.length = n) : fillc f z n L = L.map f := by simp [fillc, h]
theorem fillc_done (h : L.length = n) : ((fillc f z n L).drop 0).take (n * 1) = L.map f := by rw [fillc_full h, List.drop_zero, List.take_of_length_le (by simp; omega)]
theorem fillc_get (h : L.length < n) : (fillc f z n (L ++ [x]))[L.length]? = some (f x) := by simp [fillc]
end
theorem len_map_le {α : Type} {f : α -> PV} {L : List α} {q : Nat} (h : q <= L.length) : q * 1 <= (L.map f).length := by rw [List.length_map]; omega
theorem fz_own {i n c e : Nat} {σ : List StB} {ty : TypeId} {cs cs' : List PV} (h : contOf σ i = some (ty, cs)) (hl : n * e <= cs.length) (hc : n <= c) (ht : cs.take (n * e) = cs') : Fz (.own i 0 n c e) σ (.lst n cs') (σ.set i (.frz ty cs)) :=
 fun K hK => ⟨ty, cs, cs', h, by omega, by simpa using ht, hK⟩
theorem part0 {σ : List StB} {K : List (Nat × PV) -> List StB -> Prop} (hK : K [] σ) : PartK σ [] K := ⟨hK⟩
theorem pones_pn : ∀ xs : List Int, pones (xs.map (.int .i64)) = true
 | [] => rfl
 | x :: xs => by simp only [List.map_cons, pones, pones_pn xs, Bool.and_true]; rfl
end Go.PI
namespace Go.PI
open IM
set_option maxRecDepth 10000
def B2 (e : Nat) (x : Int) : Prop := -(2:Int)^e <= x /\ x <= 2^e
theorem two_pos (e : Nat) : (0:Int) < 2^e := Int.pow_pos (by decide)
theorem two_mono {a b : Nat} (h : a <= b) : (2:Int)^a <= 2^b := by
 obtain ⟨d, rfl⟩ := Nat.exists_eq_add_of_le h
 rw [Int.pow_add]
 have h1 := two_pos a
 have h2 := two_pos d
 have : (2:Int)^a * 1 <= 2^a * 2^d := Int.mul_le_mul_of_nonneg_left (by omega) (by omega)
 omega
theorem B2.mono {a b : Nat} {x : Int} (h : B2 a x) (hab : a <= b) : B2 b x := by
 have := two_mono hab
 unfold B2 at *
 omega
theorem B2.mul {a b : Nat} {x y : Int} (h : B2 a x) (k : B2 b y) : B2 (a + b) (x * y) := by
 unfold B2 at *
 rw [Int.pow_add]
 exact mul_bd h k
theorem B2.sub {e : Nat} {x y : Int} (h : B2 e x) (k : B2 e y) : B2 (e + 1) (x - y) := by
 unfold B2 at *
 rw [Int.pow_succ]
 omega
theorem B2.neg {e : Nat} {x : Int} (h : B2 e x) : B2 e (-x) := by
 unfold B2 at *
 omega
theorem B2.zero (e : Nat) : B2 e 0 := by
 have := two_pos e
 unfold B2
 omega
theorem B2.abs {e : Nat} {x : Int} (h : B2 e x) : B2 e x.natAbs := by
 unfold B2 at *
 omega
theorem B2.sign {e : Nat} (x : Int) : B2 e (Int.sign x) := by
 have h1 : (1:Int) <= 2^e := by have := two_pos e; omega
 unfold B2
 rcases Int.lt_trichotomy x 0 with h | h | h
 ·rw [Int.sign_eq_neg_one_of_neg h]; omega
 ·subst h; simp; omega
 ·rw [Int.sign_eq_one_of_pos h]; omega
theorem pw_two26 (k : Nat) : (2:Int)^(26 * k) <= pw k := by
 induction k with
 | zero => decide
 | succ k ih =>
  rw [pw_succ, show 26 * (k + 1) = 26 * k + 26 by omega, Int.pow_add]
  have h1 := two_pos (26 * k)
  have : (2:Int)^26 = 67108864 := by decide
  omega
theorem B2.dig {e k : Nat} {x : Int} (h : B2 e x) (hk : e <= 26 * k) : (digits x).length <= k + 1 := by
 have h1 := two_mono hk
 have h2 := pw_two26 k
 have h3 : pw (k + 1) = 100000000 * pw k := pw_succ k
 have h4 := pw_pos k
 unfold B2 at h
 exact len_of ⟨by omega, by omega⟩
def B2s (e : Nat) (L : List Int) : Prop := ∀ x ∈ L, B2 e x
theorem B2s.mono {a b : Nat} {L : List Int} (h : B2s a L) (hab : a <= b) : B2s b L := fun x hx => (h x hx).mono hab
theorem B2s.getD {e : Nat} {L : List Int} (h : B2s e L) (i : Nat) : B2 e (L.getD i 0) := by
 rw [List.getD_eq_getElem?_getD]
 cases hi : L[i]? with
 | none => exact B2.zero e
 | some x => exact h x (List.mem_of_getElem? hi)
theorem B2s.trim {e : Nat} {L : List Int} (h : B2s e L) : B2s e (trimL L) := by
 have h1 : trimL L = L.take (trimL L).length := (trim_take L).1
 intro x hx
 rw [h1] at hx
 exact h x (List.mem_of_mem_take hx)
theorem B2s.map_neg {e : Nat} {L : List Int} (h : B2s e L) : B2s e (L.map fun x => -x) := fun x hx => by
 obtain ⟨y, hy, rfl⟩ := List.mem_map.1 hx
 exact (h y hy).neg
def elP (p q : List Int) (i : Nat) : Int := p.getD i 0 * (q.getD (q.length - 1) 0).natAbs - if p.length - q.length <= i then p.getD (p.length - 1) 0 * Int.sign (q.getD (q.length - 1) 0) * q.getD (i - (p.length - q.length)) 0 else 0
def elR (p q : List Int) (i : Nat) : Int := p.getD i 0 * q.getD (q.length - 1) 0 * q.getD (q.length - 1) 0 - if p.length - q.length <= i then p.getD (p.length - 1) 0 * q.getD (q.length - 1) 0 * q.getD (i - (p.length - q.length)) 0 else 0
theorem stepP_el (p q : List Int) : stepP p q = trimL ((List.range (p.length - 1)).map (elP p q)) := rfl
theorem stepR_el (p q : List Int) : stepR p q = trimL ((List.range p.length).map (elR p q)) := rfl
theorem elP_bd {a b : Nat} {p q : List Int} (hp : B2s a p) (hq : B2s b q) (i : Nat) : B2 (a + b + 1) (elP p q i) := by
 unfold elP
 refine B2.sub ((hp.getD i).mul (hq.getD _).abs) ?_
 split
 ·have := ((hp.getD (p.length - 1)).mul (B2.sign (e := 0) (q.getD (q.length - 1) 0))).mul (hq.getD (i - (p.length - q.length)))
  exact this
 ·exact B2.zero _
theorem elR_bd {a b : Nat} {p q : List Int} (hp : B2s a p) (hq : B2s b q) (i : Nat) : B2 (a + 2 * b + 1) (elR p q i) := by
 unfold elR
 refine B2.sub ?_ ?_
 ·exact (((hp.getD i).mul (hq.getD _)).mul (hq.getD _)).mono (by omega)
 ·split
  ·exact (((hp.getD (p.length - 1)).mul (hq.getD _)).mul (hq.getD _)).mono (by omega)
  ·exact B2.zero _
theorem stepP_bd {a b : Nat} {p q : List Int} (hp : B2s a p) (hq : B2s b q) : B2s (a + b + 1) (stepP p q) := by
 rw [stepP_el]
 refine B2s.trim fun x hx => ?_
 obtain ⟨i, -, rfl⟩ := List.mem_map.1 hx
 exact elP_bd hp hq i
theorem stepR_bd {a b : Nat} {p q : List Int} (hp : B2s a p) (hq : B2s b q) : B2s (a + 2 * b + 1) (stepR p q) := by
 rw [stepR_el]
 refine B2s.trim fun x hx => ?_
 obtain ⟨i, -, rfl⟩ := List.mem_map.1 hx
 exact elR_bd hp hq i
theorem remP_bd {q : List Int} {b : Nat} (hq : B2s b q) (h1 : 1 <= q.length) : ∀ (n : Nat) {a : Nat} {p : List Int}, B2s a p -> B2s (a + (p.length + 1 - q.length) * (b + 1)) (remP n p q)
 | 0, a, p, hp => hp.mono (by omega)
 | n + 1, a, p, hp => by
  simp only [remP]
  by_cases hle : q.length <= p.length
  ·rw [if_pos hle]
   have hl := stepP_len (p := p) (q := q) (by omega)
   refine (remP_bd hq h1 n (stepP_bd hp hq)).mono ?_
   have hm : ((stepP p q).length + 1 - q.length) * (b + 1) + (b + 1) <= (p.length + 1 - q.length) * (b + 1) := by
    rw [← Nat.succ_mul]
    exact Nat.mul_le_mul_right _ (by omega)
   omega
  ·rw [if_neg hle]
   exact hp.mono (by omega)
def Siz (lp lq ep eq : Nat) : Prop := (lp = 5 /\ lq = 4 /\ ep = 12 /\ eq = 12) ∨ (lp = 4 /\ 1 <= lq /\ lq <= 3 /\ ep = 12 /\ eq = 62) ∨ (lp = 3 /\ 1 <= lq /\ lq <= 2 /\ ep = 62 /\ eq = 262) ∨ (lp = 2 /\ lq = 1 /\ ep = 262 /\ eq = 1112)
theorem Siz.next {lp lq l ep eq : Nat} (h : Siz lp lq ep eq) (h1 : 1 <= l) (h2 : l < lq) : ∃ ep' eq', Siz lq l ep' eq' /\ eq <= ep' /\ ep + (lp + 1 - lq) * (2 * eq + 1) <= eq' := by
 rcases h with ⟨rfl, rfl, rfl, rfl⟩ | ⟨rfl, h3, h4, rfl, rfl⟩ | ⟨rfl, h3, h4, rfl, rfl⟩ | ⟨rfl, rfl, rfl, rfl⟩
 ·exact ⟨12, 62, .inr (.inl ⟨rfl, h1, by omega, rfl, rfl⟩), by omega, by omega⟩
 ·have : lq = 3 ∨ lq = 2 := by omega
  rcases this with rfl | rfl
  ·exact ⟨62, 262, .inr (.inr (.inl ⟨rfl, h1, by omega, rfl, rfl⟩)), by omega, by omega⟩
  ·exact ⟨262, 1112, .inr (.inr (.inr ⟨rfl, by omega, rfl, rfl⟩)), by omega, by omega⟩
 ·exact ⟨262, 1112, .inr (.inr (.inr ⟨by omega, by omega, rfl, rfl⟩)), by omega, by omega⟩
 ·omega
theorem Siz.le {lp lq ep eq : Nat} (h : Siz lp lq ep eq) : ep + (lp + 1 - lq) * (2 * eq + 1) <= 4800 /\ 1 <= lq /\ lq < lp /\ lp <= 5 /\ eq <= 1112 /\ ep <= 262 := by
 rcases h with ⟨rfl, rfl, rfl, rfl⟩ | ⟨rfl, h3, h4, rfl, rfl⟩ | ⟨rfl, h3, h4, rfl, rfl⟩ | ⟨rfl, rfl, rfl, rfl⟩
 ·omega
 ·have : lq = 3 ∨ lq = 2 ∨ lq = 1 := by omega
  rcases this with rfl | rfl | rfl <;> omega
 ·have : lq = 2 ∨ lq = 1 := by omega
  rcases this with rfl | rfl <;> omega
 ·omega
end Go.PI
open Go.Proofs
namespace Go.PI
open IM
set_option maxRecDepth 10000
set_option maxHeartbeats 4000000
theorem fn242 : ctx.fn 242 = some c242 := by kernel_rfl
theorem vS_bound {a b : Int} {k : Nat} (ha : -1000000 <= a /\ a <= 1000000) (hb : -1000000 <= b /\ b <= 1000000) : ∀ l : List Int, (∀ c ∈ l, -pw k < c /\ c < pw k) →
  (-pw (k + l.length) < (vS l a b).1 /\ (vS l a b).1 < pw (k + l.length)) /\ (-pw l.length <= (vS l a b).2 /\ (vS l a b).2 <= pw l.length)
 | [], _ => by
  have := pw_pos k
  simp [vS, pw]; omega
 | c :: cs, h => by
  have h1 := h c (by simp)
  obtain ⟨h2, h3⟩ := vS_bound ha hb cs fun x hx => h x (by simp [hx])
  have p1 := pw_pos (k + cs.length)
  have p2 := pw_pos cs.length
  have e1 : pw (k + (c :: cs).length) = 100000000 * pw (k + cs.length) := by rw [List.length_cons, ← Nat.add_assoc]; rfl
  have e2 : pw (c :: cs).length = 100000000 * pw cs.length := by rw [List.length_cons]; rfl
  have e3 : pw (k + cs.length) = pw k * pw cs.length := pw_add _ _
  have m1 := mul_bd (a := (vS cs a b).1) (b := a) (m := pw (k + cs.length)) (n := 1000000) (by omega) ha
  have m2 := mul_bd (a := c) (b := (vS cs a b).2) (m := pw k) (n := pw cs.length) (by omega) h3
  have m3 := mul_bd (a := (vS cs a b).2) (b := b) (m := pw cs.length) (n := 1000000) h3 hb
  rw [← e3] at m2
  simp only [vS]
  rw [e1, e2]
  omega
variable (S : FuncId -> Option (List AV -> Heap -> Option (AV × Heap)))
theorem pI0 : pI 0 = .lst 0 [] := rfl
theorem valueAt_ct (hS : OldI S) (h242 : S 242 = none) {L : List Int} {a b : Int} {k : Nat} (ha : -1000000 <= a /\ a <= 1000000) (hb : -1000000 <= b /\ b <= 1000000)
  (hL : ∀ c ∈ L, -pw k < c /\ c < pw k) (hk : k <= 200) (hl : L.length <= 8) :
  Ct (ctx.plus S) 242 [pR L, pI a, pI b] 1000 fun r => r = pI (vS L a b).1 := by
 refine ct_of h242 fn242 ?_
 have p1 : pw 1 = 100000000 := by decide
 have la : (digits a).length <= 1 := len_of (k := 1) (by omega)
 have lb : (digits b).length <= 1 := len_of (k := 1) (by omega)
 have bnd : ∀ j, (digits (vS (L.drop j) a b).1).length <= 208 /\ (digits (vS (L.drop j) a b).2).length <= 9 := fun j => by
  obtain ⟨h1, h2⟩ := vS_bound (k := k) ha hb (L.drop j) fun c hc => hL c (List.mem_of_mem_drop hc)
  have hd : (L.drop j).length <= 8 := by simp; omega
  have m1 := pw_mono (show k + (L.drop j).length <= 208 by omega)
  have m2 := pw_mono (show (L.drop j).length <= 8 by omega)
  have e9 : pw 9 = 100000000 * pw 8 := rfl
  have := pw_pos 8
  exact ⟨len_of (by omega), len_of (by omega)⟩
 refine ⟨by omega, _, rfl, ?_⟩
 refine ⟨⟨by omega, by omega⟩, ?_⟩
 refine ⟨fun m s => ∃ (i : Nat) (n : Int) (v sc : PV) (σ : List StB) (q : Nat) (j3 j4 j5 j6 ja jb jc jd je jf jg jh ji jj jk jl jm jn jo jp jq jr js jt ju jv : PV),
  s = ⟨[pR L, pI a, pI b, j3, j4, j5, j6, v, sc, pn n, ja, jb, jc, jd, je, jf, jg, jh, ji, jj, jk, jl, jm, jn, jo, jp, jq, jr, js, jt, ju, jv], σ, q⟩ /\ m = i /\ n = (i : Int) - 1 /\ i <= L.length /\ (∀ σ, Fz v σ (pI (vS (L.drop i) a b).1) σ) /\ Fzs sc σ (pI (vS (L.drop i) a b).2) /\ q <= 1 + 80 * (L.length - i), ⟨L.length, ?_⟩, ?_⟩
 ·refine ci ⟨L.length, _, _, _, _, _, _, _, _, _, _, _, _, _, _, _, _, _, _, _, _, _, _, _, _, _, _, _, _, _, _, _, rfl, rfl, rfl, Nat.le_refl _, ?_, ?_, by omega⟩
  ·rw [List.drop_length]; exact fun σ => fzN
  ·rw [List.drop_length]; exact fzs_own rfl (by decide) (by decide) rfl
 ·rintro m s ⟨i, n, v, sc, σ, q, j3, j4, j5, j6, ja, jb, jc, jd, je, jf, jg, jh, ji, jj, jk, jl, jm, jn, jo, jp, jq, jr, js, jt, ju, jv, rfl, hm, rfl, hi, hv, ⟨σ', hs1, hs2, -⟩, hq⟩
  refine ⟨fun hge => ?_, fun hlt => ?_⟩
  ·obtain ⟨i, rfl⟩ : ∃ j, i = j + 1 := ⟨i - 1, by omega⟩
   obtain ⟨c, he⟩ : ∃ e, L[i]? = some e := ⟨L[i]'(by omega), List.getElem?_eq_getElem _⟩
   have hcb := hL c (List.mem_of_getElem? he)
   have hd : L.drop i = c :: L.drop (i + 1) := drop_of_get he
   have hb1 := bnd (i + 1)
   have lc : (digits c).length <= 200 := len_of (by have := pw_mono hk; omega)
   have v1 := vS_bound (k := k) ha hb (L.drop (i + 1)) fun c hc => hL c (List.mem_of_mem_drop hc)
   have hd8 : (L.drop (i + 1)).length <= 7 := by simp; omega
   have m7 := pw_mono (show k + (L.drop (i + 1)).length <= 207 by omega)
   have m8 := pw_mono (show (L.drop (i + 1)).length <= 7 by omega)
   have e208 : pw 208 = 100000000 * pw 207 := rfl
   have e207 : pw k * pw 7 <= pw 207 := by rw [← pw_add]; exact pw_mono (by omega)
   have x1 := mul_bd (a := (vS (L.drop (i + 1)) a b).1) (b := a) (m := pw 207) (n := 1000000) (by omega) ha
   have x2 := mul_bd (a := c) (b := (vS (L.drop (i + 1)) a b).2) (m := pw k) (n := pw 7) (by omega) (by omega)
   have p207 := pw_pos 207
   have l1 : (digits ((vS (L.drop (i + 1)) a b).1 * a)).length <= 208 := len_of (by omega)
   have l2 : (digits (c * (vS (L.drop (i + 1)) a b).2)).length <= 208 := len_of (by omega)
   refine ⟨by kernel_rfl, ?_⟩
   refine cal2 (hv _) fzL (prod_ct S hS.o hS.h116 (X := (vS (L.drop (i + 1)) a b).1) (Y := a) (by omega) (by omega)) (by omega) ?_
   rintro _ rfl
   refine ⟨⟨⟨by omega, by omega⟩, len_map_le (by omega)⟩, ?_⟩
   refine ⟨_, ld (at_map he) (by show _ * 1 = i; omega), rfl, ?_⟩
   refine cal2 fzL hs1 (prod_ct S hS.o hS.h116 (X := c) (Y := (vS (L.drop (i + 1)) a b).2) (by omega) (by omega)) (by omega) ?_
   rintro _ rfl
   refine callq rfl ((plus_ct S hS.o hS.h114 (X := (vS (L.drop (i + 1)) a b).1 * a) (f := 1) (Y := c * (vS (L.drop (i + 1)) a b).2) (by omega) (by omega) (by omega)).post fun r h => h.trans (congrArg pI (show _ = (vS (L.drop i) a b).1 by rw [hd, Int.one_mul]; rfl))) (by omega) ?_
   rintro _ rfl
   refine cal2 hs2 fzL (prod_ct S hS.o hS.h116 (X := (vS (L.drop (i + 1)) a b).2) (Y := b) (by omega) (by omega)) (by omega) ?_
   rintro _ rfl
   refine ⟨⟨by omega, by omega⟩, ?_⟩
   refine ⟨i, by omega, ci ⟨i, _, _, _, _, _, _, _, _, _, _, _, _, _, _, _, _, _, _, _, _, _, _, _, _, _, _, _, _, _, _, _, rfl, rfl, by omega, by omega, ?_, ?_, by omega⟩⟩
   ·exact fun σ => fzL
   ·rw [hd]; exact fzs_any fun σ => fzL
  ·have e : i = 0 := by omega
   subst e
   exact endf (hv _) rfl
end Go.PI
open Go.Proofs
namespace Go.PI
open IM
theorem fn134 : ctx.fn 134 = some c134 := by kernel_rfl
theorem fn240 : ctx.fn 240 = some c240 := by kernel_rfl
theorem fn241 : ctx.fn 241 = some c241 := by kernel_rfl
set_option maxRecDepth 10000
set_option maxHeartbeats 4000000
theorem pex95 (T : List PV) (h : T.length = 95) : T = [T.getD 0 undefP, T.getD 1 undefP, T.getD 2 undefP, T.getD 3 undefP, T.getD 4 undefP, T.getD 5 undefP, T.getD 6 undefP, T.getD 7 undefP, T.getD 8 undefP, T.getD 9 undefP, T.getD 10 undefP, T.getD 11 undefP, T.getD 12 undefP, T.getD 13 undefP, T.getD 14 undefP, T.getD 15 undefP, T.getD 16 undefP, T.getD 17 undefP, T.getD 18 undefP, T.getD 19 undefP, T.getD 20 undefP, T.getD 21 undefP, T.getD 22 undefP, T.getD 23 undefP, T.getD 24 undefP, T.getD 25 undefP, T.getD 26 undefP, T.getD 27 undefP, T.getD 28 undefP, T.getD 29 undefP, T.getD 30 undefP, T.getD 31 undefP, T.getD 32 undefP, T.getD 33 undefP, T.getD 34 undefP, T.getD 35 undefP, T.getD 36 undefP, T.getD 37 undefP, T.getD 38 undefP, T.getD 39 undefP, T.getD 40 undefP, T.getD 41 undefP, T.getD 42 undefP, T.getD 43 undefP, T.getD 44 undefP, T.getD 45 undefP, T.getD 46 undefP, T.getD 47 undefP, T.getD 48 undefP, T.getD 49 undefP, T.getD 50 undefP, T.getD 51 undefP, T.getD 52 undefP, T.getD 53 undefP, T.getD 54 undefP, T.getD 55 undefP, T.getD 56 undefP, T.getD 57 undefP, T.getD 58 undefP, T.getD 59 undefP, T.getD 60 undefP, T.getD 61 undefP, T.getD 62 undefP, T.getD 63 undefP, T.getD 64 undefP, T.getD 65 undefP, T.getD 66 undefP, T.getD 67 undefP, T.getD 68 undefP, T.getD 69 undefP, T.getD 70 undefP, T.getD 71 undefP, T.getD 72 undefP, T.getD 73 undefP, T.getD 74 undefP, T.getD 75 undefP, T.getD 76 undefP, T.getD 77 undefP, T.getD 78 undefP, T.getD 79 undefP, T.getD 80 undefP, T.getD 81 undefP, T.getD 82 undefP, T.getD 83 undefP, T.getD 84 undefP, T.getD 85 undefP, T.getD 86 undefP, T.getD 87 undefP, T.getD 88 undefP, T.getD 89 undefP, T.getD 90 undefP, T.getD 91 undefP, T.getD 92 undefP, T.getD 93 undefP, T.getD 94 undefP] := by
 have := pexpand T
 rw [h] at this
 exact this
variable (S : FuncId -> Option (List AV -> Heap -> Option (AV × Heap)))
abbrev zI : PV := .lst 0 []
def derL : Int -> List Int -> List Int
 | _, [] => []
 | k, c :: cs => k * c :: derL (k + 1) cs
theorem derL_len : ∀ (l : List Int) (k : Int), (derL k l).length = l.length
 | [], _ => rfl
 | c :: cs, k => by simp [derL, derL_len cs]
theorem derL_get : ∀ (l : List Int) (k : Int) (i : Nat) (c : Int), l[i]? = some c -> (derL k l)[i]? = some ((k + i) * c)
 | [], _, _, _, h => by simp at h
 | d :: ds, k, 0, c, h => by
  simp at h; subst h; simp [derL]
 | d :: ds, k, i + 1, c, h => by
  have := derL_get ds (k + 1) i c (by simpa using h)
  simp only [derL, List.getElem?_cons_succ]
  rw [this]
  congr 2
  omega
theorem lists_ct (hS : OldI S) (h134 : S 134 = none) {ps : List Int} (hc : Cf ps) (hl : ps.length <= 8) : Ct (ctx.plus S) 134 [pIs ps] 200 fun r => r = pR ps := by
 refine ct_of h134 fn134 ?_
 refine ⟨by omega, ⟨by omega, by omega, by omega⟩, _, fillc_zero (f := pI) (z := zI) (n := ps.length), ?_⟩
 refine ⟨fun m s => ∃ (i : Nat) (n : Int) (k : Nat) (j1 j2 j4 j5 j6 j7 j8 jc jd je jf jg jh ji jj jk jl jm : PV),
  s = ⟨[pIs ps, j1, j2, .own 0 0 ps.length ps.length 1, j4, j5, j6, j7, j8, pIs ps, pn ps.length, pn n, jc, jd, je, jf, jg, jh, ji, jj, jk, jl, jm], [.live 22 (fillc pI zI ps.length (ps.take i))], k⟩ /\ m = ps.length - i /\ n = i /\ i <= ps.length /\ k <= 1 + 12 * i, ⟨ps.length, ?_⟩, ?_⟩
 ·exact ci ⟨0, _, _, _, _, _, _, _, _, _, _, _, _, _, _, _, _, _, _, _, _, rfl, rfl, rfl, by omega, by omega⟩
 ·rintro m s ⟨i, n, k, j1, j2, j4, j5, j6, j7, j8, jc, jd, je, jf, jg, jh, ji, jj, jk, jl, jm, rfl, hm, rfl, hi, hk⟩
  have hli : (ps.take i).length = i := by simp; omega
  refine ⟨fun hlt => ?_, fun hge => ?_⟩
  ·obtain ⟨e, he⟩ : ∃ e, ps[i]? = some e := ⟨ps[i]'(by omega), List.getElem?_eq_getElem _⟩
   have heB := hc e (List.mem_of_getElem? he)
   refine ⟨⟨⟨by omega, by omega⟩, len_map_le (by omega)⟩, ?_⟩
   refine ⟨_, ld (at_map he) (by show _ * 1 = i; omega), ?_⟩
   refine callq rfl (of_ct S hS.o hS.h26 (n := e) (by unfold In64; omega)) (by omega) ?_
   rintro _ rfl
   refine ⟨⟨by omega, by omega⟩, ?_⟩
   refine ⟨_, _, rfl, ⟨rfl, ?_, rfl⟩, fillc pI zI ps.length (ps.take (i + 1)), (fillc_next (f := pI) (x := e) (by omega) (by rw [hli]; show 0 + _ * 1 = i; omega)).trans (by rw [take_snoc he]), _, rfl, ?_⟩
   ·rw [fillc_len (by omega)]; show 0 + _ * 1 + 1 <= _; omega
   refine ⟨⟨by omega, by omega⟩, ?_⟩
   refine ⟨ps.length - (i + 1), by omega, ci ⟨i + 1, _, _, _, _, _, _, _, _, _, _, _, _, _, _, _, _, _, _, _, _, rfl, rfl, rfl, by omega, by omega⟩⟩
  ·have e : i = ps.length := by omega
   subst e
   rw [List.take_length]
   refine ⟨[], 22, _, _, rfl, ⟨?_, by omega⟩, fillc_done rfl, rfl⟩
   rw [fillc_len (by omega)]
   omega
theorem derivative_ct (hS : OldI S) (h240 : S 240 = none) {c0 : Int} {cs : List Int} (hc : Cf (c0 :: cs)) (hl : cs.length <= 8) :
  Ct (ctx.plus S) 240 [pR (c0 :: cs)] 300 fun r => r = pR (derL 1 cs) := by
 refine ct_of h240 fn240 ?_
 have hlen : (((c0 :: cs).length : Nat) : Int) - 1 = (cs.length : Int) := by simp
 refine ⟨⟨by omega, by omega⟩, ?_⟩
 rw [hlen]
 refine ⟨by omega, ⟨by omega, by omega, by omega⟩, _, fillc_zero (f := pI) (z := zI) (n := cs.length), ?_⟩
 have hdl := derL_len cs 1
 refine ⟨fun m s => ∃ (i : Nat) (n : Int) (k : Nat) (j1 j2 j4 j5 j6 j7 j8 j9 jc jd je jf jg jh ji jj jk jl jm jn jo jp jq : PV),
  s = ⟨[pR (c0 :: cs), j1, j2, .own 0 0 cs.length cs.length 1, j4, j5, j6, j7, j8, j9, pn cs.length, pn n, jc, jd, je, jf, jg, jh, ji, jj, jk, jl, jm, jn, jo, jp, jq], [.live 22 (fillc pI zI cs.length ((derL 1 cs).take i))], k⟩ /\ m = cs.length - i /\ n = i /\ i <= cs.length /\ k <= 1 + 20 * i, ⟨cs.length, ?_⟩, ?_⟩
 ·exact ci ⟨0, _, _, _, _, _, _, _, _, _, _, _, _, _, _, _, _, _, _, _, _, _, _, _, _, _, rfl, rfl, rfl, by omega, by omega⟩
 ·rintro m s ⟨i, n, k, j1, j2, j4, j5, j6, j7, j8, j9, jc, jd, je, jf, jg, jh, ji, jj, jk, jl, jm, jn, jo, jp, jq, rfl, hm, rfl, hi, hk⟩
  have hli : ((derL 1 cs).take i).length = i := by simp; omega
  refine ⟨fun hlt => ?_, fun hge => ?_⟩
  ·obtain ⟨e, he⟩ : ∃ e, cs[i]? = some e := ⟨cs[i]'(by omega), List.getElem?_eq_getElem _⟩
   have heB := hc e (by simp [List.mem_of_getElem? he])
   have hde := derL_get cs 1 i e he
   have p1 : pw 1 = 100000000 := by decide
   have lde : (digits e).length <= 1 := len_of (k := 1) (by omega)
   refine ⟨⟨by omega, by omega⟩, ⟨by omega, by omega⟩, ?_⟩
   refine ⟨⟨⟨by omega, by simp; omega⟩, len_map_le (by simp; omega)⟩, ?_⟩
   refine ⟨_, ld (j := i + 1) (v := pI e) (by simp [he]) (by show _ * 1 = i + 1; omega), ?_⟩
   refine cal3 fzN fzI fzL ((plus_ct S hS.o hS.h114 (X := 0) (f := (i : Int) + 1) (Y := e) (by decide) (by omega) (by omega)).post fun r h => h.trans (congrArg pI (show _ = (1 + (i : Int)) * e by rw [Int.zero_add, Int.add_comm 1]))) (by omega) ?_
   rintro _ rfl
   refine ⟨⟨by omega, by omega⟩, ?_⟩
   refine ⟨_, _, rfl, ⟨rfl, ?_, rfl⟩, fillc pI zI cs.length ((derL 1 cs).take (i + 1)), (fillc_next (f := pI) (x := (1 + (i : Int)) * e) (by omega) (by rw [hli]; show 0 + _ * 1 = i; omega)).trans (by rw [take_snoc hde]), _, rfl, ?_⟩
   ·rw [fillc_len (by omega)]; show 0 + _ * 1 + 1 <= _; omega
   refine ⟨⟨by omega, by omega⟩, ?_⟩
   refine ⟨cs.length - (i + 1), by omega, ci ⟨i + 1, _, _, _, _, _, _, _, _, _, _, _, _, _, _, _, _, _, _, _, _, _, _, _, _, _, rfl, rfl, rfl, by omega, by omega⟩⟩
  ·have e : i = cs.length := by omega
   subst e
   rw [List.take_of_length_le (by omega)]
   refine ⟨[], 22, _, _, rfl, ⟨?_, by omega⟩, fillc_done hdl, ?_⟩
   ·rw [fillc_len (by omega)]
    omega
   ·show PV.lst _ _ = pR _
    rw [pR, hdl]
end Go.PI
