/- Own work of the verifier: OgSg. -/
import Derived.Test.YtefajaiioljjoaaOiBH
import Derived.Test.YtefajaiioljjoaaOiBF
set_option linter.all false
set_option exponentiation.threshold 3000
set_option linter.deprecated false
/- SADDLES of the program. -/
open Go.Proofs
namespace Go.PI
open IM
set_option maxRecDepth 10000
set_option maxHeartbeats 4000000
variable (S : FuncId → Option (List AV → Heap → Option (AV × Heap)))
/-- v is a slice of n structs of six integers each, that may grow -/
def Gw (e : TypeId) (v : PV) (σ : List StB) (n : Nat) (cs : List Int) : Prop := cs.length = 6 * n ∧ ((v = .nils ∧ n = 0) ∨ ∃ j, 0 < n ∧ v = .ownu j n 6 ∧ σ[j]? = some (.live e (cs.map pn)))
theorem Gw.nil {e : TypeId} {σ : List StB} : Gw e .nils σ 0 [] := ⟨rfl, .inl ⟨rfl, rfl⟩⟩
theorem Gw.fz {e : TypeId} {v : PV} {σ : List StB} {n : Nat} {cs : List Int} (h : Gw e v σ n cs) : ∃ σ', Fz v σ (.lst n (cs.map pn)) σ' := by
  obtain ⟨hl, ⟨rfl, rfl⟩ | ⟨j, h0, rfl, h⟩⟩ := h
  · have : cs = [] := List.length_eq_zero_iff.1 (by omega)
    subst this
    exact ⟨σ, fzN⟩
  · exact ⟨_, fun K hK => ⟨e, _, _, contOf_live h, ⟨by rw [List.length_map]; omega, fun h => by omega⟩, by rw [List.take_of_length_le (by rw [List.length_map]; omega)], hK⟩⟩
theorem Gw.keep {e : TypeId} {v : PV} {σ σ' : List StB} {n : Nat} {cs : List Int} (h : Gw e v σ n cs) (k : ∀ (j : Nat) (b : StB), σ[j]? = some b → σ'[j]? = some b) : Gw e v σ' n cs := by
  obtain ⟨hl, ⟨rfl, rfl⟩ | ⟨j, h0, rfl, h⟩⟩ := h
  · exact ⟨hl, .inl ⟨rfl, rfl⟩⟩
  · exact ⟨hl, .inr ⟨j, h0, rfl, k j _ h⟩⟩
theorem Gw.push {e : TypeId} {v : PV} {σ : List StB} {n : Nat} {cs : List Int} {b : StB} (h : Gw e v σ n cs) : Gw e v (σ ++ [b]) n cs :=
  h.keep fun j b hb => by rw [List.getElem?_append_left (List.getElem?_eq_some_iff.1 hb).1]; exact hb
/-- one struct more -/
theorem appW {C : Ctx} {c k : Nat} {e t tx : TypeId} {rest : List TypeId} {v : PV} {n : Nat} {cs ys : List Int} {i m : Nat} {ty : TypeId} {σ : List StB} {ti xi ei : TI} {K : PV → List StB → Nat → Prop} (hg : Gw e v σ n cs) (hy : ys.length = 6) (hx : contOf σ i = some (ty, ys.map pn)) (ht : C.ty t = some ti) (htd : ti.desc = .slice e) (htx : C.ty tx = some xi) (he : C.ty e = some ei) (hd : decide (srcOk xi.desc = true ∧ ei.bytes ≤ 2 ^ 10) = true) (hs : ei.size = 6)
    (hl : n ≤ 1000000) (hk : k < c) (hK : ∀ v' σ', Gw e v' σ' (n + 1) (cs ++ ys) → (∀ j b, blkOf v ≠ some j → σ[j]? = some b → σ'[j]? = some b) → K v' σ' (k + 1)) : AppK C c k σ (t :: tx :: rest) v (.own i 0 1 1 m) K := by
  refine ⟨?_⟩
  obtain ⟨desc, sz, by', z⟩ := ti
  simp only at htd
  subst htd
  unfold pappK
  simp only [ht, htx, he, hd]
  have hym : (ys.map pn).length = 6 := by rw [List.length_map, hy]
  refine ⟨ty, ys.map pn, ys.map pn, hx, by rw [hs, hym]; omega, by rw [hs, List.drop_zero, List.take_of_length_le (by omega)], ⟨by decide, ones_pn⟩, ?_⟩
  obtain ⟨hcl, hg⟩ := hg
  have hcl2 : (cs ++ ys).length = 6 * (n + 1) := by rw [List.length_append]; omega
  rcases hg with ⟨rfl, rfl⟩ | ⟨j, h0, rfl, h⟩
  · have hc0 : cs = [] := List.length_eq_zero_iff.1 (by omega)
    subst hc0
    refine ⟨(fun h => by cases h), fun _ => ⟨hk, ?_⟩⟩
    rw [hs]
    exact hK _ _ ⟨hcl2, .inr ⟨σ.length, by omega, rfl, by simp⟩⟩ fun j b _ hb => by rw [List.getElem?_append_left (List.getElem?_eq_some_iff.1 hb).1]; exact hb
  · have hcm : (cs.map pn).length = n * 6 := by rw [List.length_map]; omega
    refine ⟨⟨by omega, hs.symm, hk⟩, cs.map pn, cs.map pn ++ ys.map pn, h, by rw [hs, hcm]; omega, by rw [hs, List.take_of_length_le (by omega)], ?_⟩
    refine hK _ _ ⟨hcl2, .inr ⟨σ.length, by omega, rfl, by simp⟩⟩ fun j' b hj hb => ?_
    have hne : j ≠ j' := fun e => hj (by rw [← e]; rfl)
    rw [List.getElem?_append_left (by rw [List.length_set]; exact (List.getElem?_eq_some_iff.1 hb).1), List.getElem?_set_ne hne]
    exact hb
end Go.PI
