/- Own work of the verifier, group PiP: PiNil PiVec PiNil2. -/
import Derived.Test.YtmoppnaoiihjfaaGreatDoorPiN
import Derived.Test.YtmoppnaoiihjfaaGreatDoorPiO
set_option linter.all false
set_option linter.deprecated false
/- THE METHODS OF A NIL FIELD. -/
open Go.Proofs
namespace Go.PI
theorem closed_any {P : Program} {C : Ctx} (hC : Ctx.Ok P C) {n : Nat} {f : FuncId} {us0 : List AV} {v : AV} {H1 : Heap} (h : call C n f us0 ⟨0, .nil⟩ = some (v, H1)) (hv : ∀ H1, Ren H1 id 0 v v) {μ : M} {H : Heap} {w : World} {args : Array Value}
    (ha : VRs (fun _ => none) us0 args.toList) (hH : HR μ H w) : CallR P μ H w f args v H := by
  have h0 : HR (fun _ => none) ⟨0, .nil⟩ w := ⟨by simp [PI.lim], fun _ _ => rfl, fun A bi hl hm => (by cases hm), fun A B a b _ _ _ hm => (by cases hm)⟩
  have conv : ∀ {u w'}, EffR (fun _ => none) ⟨0, .nil⟩ w v H1 u w' → EffR μ H w v H u w' := fun {u w'} hE => by
    obtain ⟨μ1, e1, e2, e3⟩ := id hE
    exact frame_closed hH (fun μ2 _ => (hv H1).vr (μ' := μ) e2 (fun A hA => by omega) e1) hE
  rcases callF_sim hC (sound hC n) h ha h0 with ⟨u, w', h1, h2⟩ | ⟨h1, h2⟩
  · exact .inl ⟨u, w', h1, conv h2⟩
  · refine .inr ⟨h1, fun F m hF => (h2 F m hF).mono ?_⟩
    rintro e w' ⟨u, rfl, hE⟩
    exact ⟨u, rfl, conv hE⟩
theorem agg_args {μ : M} {cs : List AV} {v : Value} (h : VR μ (.agg cs) v) : ∃ xs : Array Value, v = .agg xs ∧ xs.toList.length = cs.length := by
  cases h with
  | agg h => exact ⟨_, rfl, h.length.symm⟩
theorem raw_agg (xs : Array Value) : VR (fun _ => none) (.agg (xs.toList.map AV.raw)) (.agg xs) := .agg (anys _ _)
theorem two_of {α : Type} {l : List α} (h : l.length = 2) : ∃ a b, l = [a, b] := by
  match l, h with
  | [a, b], _ => exact ⟨a, b, rfl⟩
theorem four_of {α : Type} {l : List α} (h : l.length = 4) : ∃ a b c d, l = [a, b, c, d] := by
  match l, h with
  | [a, b, c, d], _ => exact ⟨a, b, c, d, rfl⟩

def patP (v : AV) (us : List AV) (H : Heap) : Option (AV × Heap) := match us with | [.nilp] => some (v, H) | _ => none
def patPN (v : AV) (us : List AV) (H : Heap) : Option (AV × Heap) := match us with | [.nilp, .agg [_, _]] => some (v, H) | _ => none
def patPNI (v : AV) (us : List AV) (H : Heap) : Option (AV × Heap) := match us with | [.nilp, .agg [_, _], .int .i64 _] => some (v, H) | _ => none
def patPNN (v : AV) (us : List AV) (H : Heap) : Option (AV × Heap) := match us with | [.nilp, .agg [_, _], .agg [_, _]] => some (v, H) | _ => none
def patPVV (v : AV) (us : List AV) (H : Heap) : Option (AV × Heap) := match us with | [.nilp, .agg [_, _, _, _], .agg [_, _, _, _]] => some (v, H) | _ => none
def patPNNNN (v : AV) (us : List AV) (H : Heap) : Option (AV × Heap) := match us with | [.nilp, .agg [_, _], .agg [_, _], .agg [_, _], .agg [_, _]] => some (v, H) | _ => none
section
variable {P : Program} {C : Ctx} (hC : Ctx.Ok P C) {f : FuncId} {v : AV} (hv : ∀ H1, Ren H1 id 0 v v)
include hC hv
theorem shape_P (h : ∃ n H1, call C n f [.nilp] ⟨0, .nil⟩ = some (v, H1)) : SumR P f (patP v) := by
  intro us H v' H' hS μ args w ha hH
  unfold patP at hS
  split at hS
  · cases hS
    obtain ⟨n, H1, h⟩ := h
    refine closed_any hC h hv ?_ hH
    generalize args.toList = l at ha ⊢
    cases ha with
    | cons h1 ha => cases ha; exact .cons (by rw [h1.nilp_inv]; exact .nilp) .nil
  · cases hS
theorem shape_PN (h : ∀ a b, ∃ n H1, call C n f [.nilp, .agg [a, b]] ⟨0, .nil⟩ = some (v, H1)) : SumR P f (patPN v) := by
  intro us H v' H' hS μ args w ha hH
  unfold patPN at hS
  split at hS
  · cases hS
    obtain ⟨a, hargs⟩ : ∃ a, a = args.toList := ⟨_, rfl⟩
    rw [← hargs] at ha
    cases ha with
    | cons h1 ha => cases ha with
      | cons h2 ha =>
        cases ha
        obtain ⟨xs, rfl, hx⟩ := agg_args h2
        obtain ⟨u1, u2, hu⟩ := two_of hx
        obtain ⟨n, H1, h⟩ := h (.raw u1) (.raw u2)
        refine closed_any hC h hv ?_ hH
        rw [← hargs]
        exact .cons (by rw [h1.nilp_inv]; exact .nilp) (.cons (by have := raw_agg xs; rw [hu] at this; exact this) .nil)
  · cases hS
theorem shape_PNI (h : ∀ a b k, ∃ n H1, call C n f [.nilp, .agg [a, b], iv k] ⟨0, .nil⟩ = some (v, H1)) : SumR P f (patPNI v) := by
  intro us H v' H' hS μ args w ha hH
  unfold patPNI at hS
  split at hS
  · cases hS
    obtain ⟨a, hargs⟩ : ∃ a, a = args.toList := ⟨_, rfl⟩
    rw [← hargs] at ha
    cases ha with
    | cons h1 ha => cases ha with
      | cons h2 ha => cases ha with
        | cons h3 ha =>
          cases ha
          rename_i k _ _ _ _
          obtain ⟨xs, rfl, hx⟩ := agg_args h2
          obtain ⟨u1, u2, hu⟩ := two_of hx
          obtain ⟨n, H1, h⟩ := h (.raw u1) (.raw u2) _
          refine closed_any hC h hv ?_ hH
          rw [← hargs]
          exact .cons (by rw [h1.nilp_inv]; exact .nilp) (.cons (by have := raw_agg xs; rw [hu] at this; exact this) (.cons (by rw [h3.int_inv]; exact .int _ _) .nil))
  · cases hS
theorem shape_PNN (h : ∀ a b c d, ∃ n H1, call C n f [.nilp, .agg [a, b], .agg [c, d]] ⟨0, .nil⟩ = some (v, H1)) : SumR P f (patPNN v) := by
  intro us H v' H' hS μ args w ha hH
  unfold patPNN at hS
  split at hS
  · cases hS
    obtain ⟨a, hargs⟩ : ∃ a, a = args.toList := ⟨_, rfl⟩
    rw [← hargs] at ha
    cases ha with
    | cons h1 ha => cases ha with
      | cons h2 ha => cases ha with
        | cons h3 ha =>
          cases ha
          obtain ⟨xs, rfl, hx⟩ := agg_args h2
          obtain ⟨u1, u2, hu⟩ := two_of hx
          obtain ⟨ys, rfl, hy⟩ := agg_args h3
          obtain ⟨u3, u4, hu'⟩ := two_of hy
          obtain ⟨n, H1, h⟩ := h (.raw u1) (.raw u2) (.raw u3) (.raw u4)
          refine closed_any hC h hv ?_ hH
          rw [← hargs]
          exact .cons (by rw [h1.nilp_inv]; exact .nilp) (.cons (by have := raw_agg xs; rw [hu] at this; exact this) (.cons (by have := raw_agg ys; rw [hu'] at this; exact this) .nil))
  · cases hS
theorem shape_PVV (h : ∀ a b c d a' b' c' d', ∃ n H1, call C n f [.nilp, .agg [a, b, c, d], .agg [a', b', c', d']] ⟨0, .nil⟩ = some (v, H1)) : SumR P f (patPVV v) := by
  intro us H v' H' hS μ args w ha hH
  unfold patPVV at hS
  split at hS
  · cases hS
    obtain ⟨a, hargs⟩ : ∃ a, a = args.toList := ⟨_, rfl⟩
    rw [← hargs] at ha
    cases ha with
    | cons h1 ha => cases ha with
      | cons h2 ha => cases ha with
        | cons h3 ha =>
          cases ha
          obtain ⟨xs, rfl, hx⟩ := agg_args h2
          obtain ⟨u1, u2, u3, u4, hu⟩ := four_of hx
          obtain ⟨ys, rfl, hy⟩ := agg_args h3
          obtain ⟨u5, u6, u7, u8, hu'⟩ := four_of hy
          obtain ⟨n, H1, h⟩ := h (.raw u1) (.raw u2) (.raw u3) (.raw u4) (.raw u5) (.raw u6) (.raw u7) (.raw u8)
          refine closed_any hC h hv ?_ hH
          rw [← hargs]
          exact .cons (by rw [h1.nilp_inv]; exact .nilp) (.cons (by have := raw_agg xs; rw [hu] at this; exact this) (.cons (by have := raw_agg ys; rw [hu'] at this; exact this) .nil))
  · cases hS
theorem shape_PNNNN (h : ∀ a b c d a' b' c' d', ∃ n H1, call C n f [.nilp, .agg [a, b], .agg [c, d], .agg [a', b'], .agg [c', d']] ⟨0, .nil⟩ = some (v, H1)) : SumR P f (patPNNNN v) := by
  intro us H v' H' hS μ args w ha hH
  unfold patPNNNN at hS
  split at hS
  · cases hS
    obtain ⟨a, hargs⟩ : ∃ a, a = args.toList := ⟨_, rfl⟩
    rw [← hargs] at ha
    cases ha with
    | cons h1 ha => cases ha with
      | cons h2 ha => cases ha with
        | cons h3 ha => cases ha with
          | cons h4 ha => cases ha with
            | cons h5 ha =>
              cases ha
              obtain ⟨xs, rfl, hx⟩ := agg_args h2
              obtain ⟨u1, u2, hu⟩ := two_of hx
              obtain ⟨ys, rfl, hy⟩ := agg_args h3
              obtain ⟨u3, u4, hu'⟩ := two_of hy
              obtain ⟨zs, rfl, hz⟩ := agg_args h4
              obtain ⟨u5, u6, hu''⟩ := two_of hz
              obtain ⟨ts, rfl, ht⟩ := agg_args h5
              obtain ⟨u7, u8, hu'''⟩ := two_of ht
              obtain ⟨n, H1, h⟩ := h (.raw u1) (.raw u2) (.raw u3) (.raw u4) (.raw u5) (.raw u6) (.raw u7) (.raw u8)
              refine closed_any hC h hv ?_ hH
              rw [← hargs]
              exact .cons (by rw [h1.nilp_inv]; exact .nilp) (.cons (by have := raw_agg xs; rw [hu] at this; exact this) (.cons (by have := raw_agg ys; rw [hu'] at this; exact this) (.cons (by have := raw_agg zs; rw [hu''] at this; exact this) (.cons (by have := raw_agg ts; rw [hu'''] at this; exact this) .nil))))
  · cases hS
end

/-! ### the runs -/
def zN : AV := .agg [.nils, .nils]
def tQ : AV := .tup [.agg [.nils, .nils], iv 1]
def tS : AV := .tup [.nils, iv 1]
def zF : AV := .agg [.nils, iv 0, iv 0, iv 0]
def isN (x : Option (AV × Heap)) : Bool := match x with | some (.agg [.nils, .nils], _) => true | _ => false
def isTQ (x : Option (AV × Heap)) : Bool := match x with | some (.tup [.agg [.nils, .nils], .int .i64 1], _) => true | _ => false
def isTS (x : Option (AV × Heap)) : Bool := match x with | some (.tup [.nils, .int .i64 1], _) => true | _ => false
def isI0 (x : Option (AV × Heap)) : Bool := match x with | some (.int .i64 0, _) => true | _ => false
def isNl (x : Option (AV × Heap)) : Bool := match x with | some (.nils, _) => true | _ => false
def isF (x : Option (AV × Heap)) : Bool := match x with | some (.agg [.nils, .int .i64 0, .int .i64 0, .int .i64 0], _) => true | _ => false
set_option maxRecDepth 1000000
theorem q62 (a b c d : AV) : isTQ (quick ctx2 10000 62 [.nilp, .agg [a, b], .agg [c, d]] ⟨0, .nil⟩) = true := by kernel_rfl
theorem q72 (a b : AV) (k : Int) : isTS (quick ctx2 10000 72 [.nilp, .agg [a, b], iv k] ⟨0, .nil⟩) = true := by kernel_rfl
theorem q74 (a b : AV) : isI0 (quick ctx2 10000 74 [.nilp, .agg [a, b]] ⟨0, .nil⟩) = true := by kernel_rfl
theorem q76 (a b c d : AV) : isI0 (quick ctx2 10000 76 [.nilp, .agg [a, b], .agg [c, d]] ⟨0, .nil⟩) = true := by kernel_rfl
theorem q78 (a b : AV) : isNl (quick ctx2 10000 78 [.nilp, .agg [a, b]] ⟨0, .nil⟩) = true := by kernel_rfl
theorem q47 : isF (quick ctx2 10000 47 [.nilp] ⟨0, .nil⟩) = true := by kernel_rfl
theorem q64 (a b : AV) : isN (quick ctx2 10000 64 [.nilp, .agg [a, b]] ⟨0, .nil⟩) = true := by kernel_rfl
theorem q66 (a b c d : AV) : isN (quick ctx2 10000 66 [.nilp, .agg [a, b], .agg [c, d]] ⟨0, .nil⟩) = true := by kernel_rfl
theorem q68 (a b c d : AV) : isN (quick ctx2 10000 68 [.nilp, .agg [a, b], .agg [c, d]] ⟨0, .nil⟩) = true := by kernel_rfl
theorem q70 (a b c d : AV) : isN (quick ctx2 10000 70 [.nilp, .agg [a, b], .agg [c, d]] ⟨0, .nil⟩) = true := by kernel_rfl
theorem q80 (a b : AV) : isN (quick ctx2 10000 80 [.nilp, .agg [a, b]] ⟨0, .nil⟩) = true := by kernel_rfl
theorem q81 (a b : AV) : isN (quick ctx2 10000 81 [.nilp, .agg [a, b]] ⟨0, .nil⟩) = true := by kernel_rfl
theorem q85 (a b c d a' b' c' d' : AV) : isN (quick ctx2 10000 85 [.nilp, .agg [a, b, c, d], .agg [a', b', c', d']] ⟨0, .nil⟩) = true := by kernel_rfl
theorem q170 (a b c d a' b' c' d' : AV) : isN (quick ctx2 10000 170 [.nilp, .agg [a, b], .agg [c, d], .agg [a', b'], .agg [c', d']] ⟨0, .nil⟩) = true := by kernel_rfl
end Go.PI

/- VECTORS AND MATRICES OF A NIL FIELD. -/
open Go.Proofs
namespace Go.PI
def Smp (a : AV) : Prop := a.sames a = true
theorem same_agg {l : List AV} (h : ∀ a ∈ l, Smp a) : (AV.agg l).same (.agg l) = true := by
  have key : ∀ l : List AV, (∀ a ∈ l, Smp a) → sameLs l l = true := by
    intro l
    induction l with
    | nil => intro _; rfl
    | cons a l ih => intro h; simp only [sameLs, Bool.and_eq_true]; exact ⟨h a (by simp), ih fun b hb => h b (by simp [hb])⟩
  exact key l h
abbrev three (H : Heap) (b1 b2 b3 : Blk) : Heap := ((H.push b1).push b2).push b3
theorem three_get {H : Heap} {b1 b2 b3 : Blk} (hn : H.n + 3 < lim) : (three H b1 b2 b3).get H.n = b1 ∧ (three H b1 b2 b3).get (H.n + 1) = b2 ∧ (three H b1 b2 b3).get (H.n + 2) = b3 ∧ ∀ A, A < H.n → (three H b1 b2 b3).get A = H.get A := by
  have e1 : (H.push b1).n = H.n + 1 := rfl
  have e2 : ((H.push b1).push b2).n = H.n + 2 := rfl
  have g3 : ∀ X, (three H b1 b2 b3).get X = if X = H.n + 2 then b3 else ((H.push b1).push b2).get X := Heap.get_push (by rw [e2]; omega)
  have g2 : ∀ X, ((H.push b1).push b2).get X = if X = H.n + 1 then b2 else (H.push b1).get X := Heap.get_push (by rw [e1]; omega)
  have g1 : ∀ X, (H.push b1).get X = if X = H.n then b1 else H.get X := Heap.get_push (by omega)
  refine ⟨?_, ?_, ?_, fun A hA => ?_⟩
  · rw [g3, if_neg (by omega), g2, if_neg (by omega), g1, if_pos rfl]
  · rw [g3, if_neg (by omega), g2, if_pos rfl]
  · rw [g3, if_pos rfl]
  · rw [g3, if_neg (by omega), g2, if_neg (by omega), g1, if_neg (by omega)]
theorem load_num {C : Ctx} (hT : C.ty = tget) {H : Heap} {b off : Nat} {rw : Bool} {ty : TypeId} {cs : List AV} (hg : H.get b = .cells rw ty cs) (hl : off + 2 ≤ cs.length) : loadE C 61 (.ptr b off) H = some (.agg ((cs.drop off).take 2)) := by
  simp only [loadE, ty61 hT, hg, partE, t61, if_pos hl]
theorem store_all {C : Ctx} {H : Heap} {b : Nat} {t : TypeId} {i : TI} {cs vs : List AV} (ht : C.ty t = some i) (hg : H.get b = .cells true t cs) (hl : vs.length = i.size) (hc : cs.length = i.size) (h1 : ones vs = true) : storeE C t (.ptr b 0) (.agg vs) H = some (H.set b (.cells true t vs)) := by
  have e : splice cs 0 vs = vs := by
    unfold splice
    rw [List.take_zero, List.nil_append, Nat.zero_add, List.drop_of_length_le (by omega), List.append_nil]
  have e' : (AV.agg vs).cells = vs := rfl
  simp only [storeE, ht, hg]
  rw [if_pos ⟨hl, by omega, h1⟩, e', e]
theorem load_all {C : Ctx} {H : Heap} {b : Nat} {t : TypeId} {i : TI} {fs : Array Field} {rw : Bool} {cs : List AV} (ht : C.ty t = some i) (hd : i.desc = .struct fs) (hg : H.get b = .cells rw t cs) (hc : cs.length = i.size) : loadE C t (.ptr b 0) H = some (.agg cs) := by
  obtain ⟨d, s, by_, z⟩ := i
  simp only at hd hc
  subst hd
  simp only [loadE, ht, hg, partE, Nat.zero_add]
  rw [if_pos (by omega), List.drop_zero, List.take_of_length_le (by omega)]

theorem three_set {H : Heap} {b1 b2 b3 b4 : Blk} (hn : H.n + 3 < lim) : ((three H b1 b2 b3).set (H.n + 2) b4).get (H.n + 2) = b4 ∧ Grow H ((three H b1 b2 b3).set (H.n + 2) b4) := by
  have n3 : (three H b1 b2 b3).n = H.n + 3 := rfl
  have hs := Heap.get_set (H := three H b1 b2 b3) (A := H.n + 2) (b := b4) (by omega) (by omega)
  have n4 : ((three H b1 b2 b3).set (H.n + 2) b4).n = H.n + 3 := rfl
  refine ⟨by rw [hs, if_pos rfl], by omega, by omega, fun A hA => ?_⟩
  rw [hs, if_neg (by omega)]
  exact (three_get hn).2.2.2 A hA
set_option maxRecDepth 100000
set_option maxHeartbeats 4000000
variable (S : FuncId → Option (List AV → Heap → Option (AV × Heap)))
theorem fn88 : ctx.fn 88 = some c88 := by kernel_rfl
theorem sum_run (h88 : S 88 = none) (hcal : S 66 = some (patPNN zN)) {H : Heap} {a0 a1 a2 a3 b0 b1 b2 b3 : AV} (hn : H.n + 10 < lim) (hs : ∀ x ∈ [a0, a1, a2, a3], Smp x) (hs' : ∀ x ∈ [b0, b1, b2, b3], Smp x) :
    Cl (ctx.plus S) 88 [.nilp, .agg [a0, a1, a2, a3], .agg [b0, b1, b2, b3]] H fun r H' => r = .agg [.nils, .nils, .nils, .nils] ∧ Grow H H' := by
  refine cl_of h88 fn88 ?_
  have hT : (ctx.plus S).ty = tget := rfl
  have hto : (ctx.plus S).ty 92 = some t92 := rfl
  obtain ⟨g1, g2, g3, g4⟩ := three_get (H := H) (b1 := .cells true 92 [a0, a1, a2, a3]) (b2 := .cells true 92 [b0, b1, b2, b3]) (b3 := .cells true 92 [.nils, .nils, .nils, .nils]) (by omega)
  have l1_0 := load_num (C := ctx.plus S) hT (off := 0) g1 (by simp)
  have s1_0 : (AV.agg [a0, a1]).same (.agg [a0, a1]) = true := same_agg fun x hx => hs x (by simp only [List.mem_cons, List.not_mem_nil, or_false] at hx ⊢; rcases hx with h | h <;> simp [h])
  have l2_0 := load_num (C := ctx.plus S) hT (off := 0) g2 (by simp)
  have s2_0 : (AV.agg [b0, b1]).same (.agg [b0, b1]) = true := same_agg fun x hx => hs' x (by simp only [List.mem_cons, List.not_mem_nil, or_false] at hx ⊢; rcases hx with h | h <;> simp [h])
  have l1_2 := load_num (C := ctx.plus S) hT (off := 2) g1 (by simp)
  have s1_2 : (AV.agg [a2, a3]).same (.agg [a2, a3]) = true := same_agg fun x hx => hs x (by simp only [List.mem_cons, List.not_mem_nil, or_false] at hx ⊢; rcases hx with h | h <;> simp [h])
  have l2_2 := load_num (C := ctx.plus S) hT (off := 2) g2 (by simp)
  have s2_2 : (AV.agg [b2, b3]).same (.agg [b2, b3]) = true := same_agg fun x hx => hs' x (by simp only [List.mem_cons, List.not_mem_nil, or_false] at hx ⊢; rcases hx with h | h <;> simp [h])
  have n3 : (three H (.cells true 92 [a0, a1, a2, a3]) (.cells true 92 [b0, b1, b2, b3]) (.cells true 92 [.nils, .nils, .nils, .nils])).n = H.n + 3 := rfl
  refine ⟨by omega, (by show H.n + 1 < lim; omega), (by show H.n + 2 < lim; omega), ?_⟩
  have hst := store_all (C := ctx.plus S) (vs := [.nils, .nils, .nils, .nils]) hto g3 rfl rfl rfl
  refine ⟨.ptr H.n 0, rfl, _, l1_0, ?_⟩
  refine ⟨.ptr (H.n + 1) 0, rfl, _, l2_0, ?_⟩
  refine Cl.of_sum (v := zN) (H' := three H (.cells true 92 [a0, a1, a2, a3]) (.cells true 92 [b0, b1, b2, b3]) (.cells true 92 [.nils, .nils, .nils, .nils])) (by simp only [sumE, Ctx.plus, hcal]; rfl) ?_
  refine ⟨.ptr H.n 2, rfl, _, l1_2, ?_⟩
  refine ⟨.ptr (H.n + 1) 2, rfl, _, l2_2, ?_⟩
  refine Cl.of_sum (v := zN) (H' := three H (.cells true 92 [a0, a1, a2, a3]) (.cells true 92 [b0, b1, b2, b3]) (.cells true 92 [.nils, .nils, .nils, .nils])) (by simp only [sumE, Ctx.plus, hcal]; rfl) ?_
  refine ⟨.agg [.nils, .nils, .nils, .nils], rfl, ?_⟩
  refine ⟨_, hst, ?_⟩
  refine ⟨draw_of (three H (.cells true 92 [a0, a1, a2, a3]) (.cells true 92 [b0, b1, b2, b3]) (.cells true 92 [.nils, .nils, .nils, .nils])) (by kernel_rfl) rfl ?_ ?_ ?_, ?_⟩
  · exact ⟨trivial, trivial, ⟨_, _, _, rfl, by omega, l1_0, s1_0⟩, trivial, ⟨_, _, _, rfl, by omega, l2_0, s2_0⟩, trivial, trivial, trivial, ⟨_, _, _, rfl, by omega, l1_2, s1_2⟩, trivial, ⟨_, _, _, rfl, by omega, l2_2, s2_2⟩, trivial, trivial, trivial, trivial⟩
  · repeat' (first | exact trivial | refine ⟨fun _ _ => rfl, ?_⟩)
  · repeat' (first | exact trivial | refine ⟨Nat.le_refl _, ?_⟩)
  · obtain ⟨f1, f2⟩ := three_set (H := H) (b1 := .cells true 92 [a0, a1, a2, a3]) (b2 := .cells true 92 [b0, b1, b2, b3]) (b3 := .cells true 92 [.nils, .nils, .nils, .nils]) (b4 := .cells true 92 [.nils, .nils, .nils, .nils]) (by omega)
    exact ⟨_, load_all hto rfl f1 rfl, rfl, f2⟩
theorem fn90 : ctx.fn 90 = some c90 := by kernel_rfl
theorem times_run (h90 : S 90 = none) (hcal : S 70 = some (patPNN zN)) {H : Heap} {a0 a1 b0 b1 b2 b3 : AV} (hn : H.n + 10 < lim) (hs : ∀ x ∈ [a0, a1], Smp x) (hs' : ∀ x ∈ [b0, b1, b2, b3], Smp x) :
    Cl (ctx.plus S) 90 [.nilp, .agg [a0, a1], .agg [b0, b1, b2, b3]] H fun r H' => r = .agg [.nils, .nils, .nils, .nils] ∧ Grow H H' := by
  refine cl_of h90 fn90 ?_
  have hT : (ctx.plus S).ty = tget := rfl
  have hto : (ctx.plus S).ty 92 = some t92 := rfl
  obtain ⟨g1, g2, g3, g4⟩ := three_get (H := H) (b1 := .cells true 61 [a0, a1]) (b2 := .cells true 92 [b0, b1, b2, b3]) (b3 := .cells true 92 [.nils, .nils, .nils, .nils]) (by omega)
  have l1_0 := load_num (C := ctx.plus S) hT (off := 0) g1 (by simp)
  have s1_0 : (AV.agg [a0, a1]).same (.agg [a0, a1]) = true := same_agg fun x hx => hs x (by simp only [List.mem_cons, List.not_mem_nil, or_false] at hx ⊢; rcases hx with h | h <;> simp [h])
  have l2_0 := load_num (C := ctx.plus S) hT (off := 0) g2 (by simp)
  have s2_0 : (AV.agg [b0, b1]).same (.agg [b0, b1]) = true := same_agg fun x hx => hs' x (by simp only [List.mem_cons, List.not_mem_nil, or_false] at hx ⊢; rcases hx with h | h <;> simp [h])
  have l2_2 := load_num (C := ctx.plus S) hT (off := 2) g2 (by simp)
  have s2_2 : (AV.agg [b2, b3]).same (.agg [b2, b3]) = true := same_agg fun x hx => hs' x (by simp only [List.mem_cons, List.not_mem_nil, or_false] at hx ⊢; rcases hx with h | h <;> simp [h])
  have n3 : (three H (.cells true 61 [a0, a1]) (.cells true 92 [b0, b1, b2, b3]) (.cells true 92 [.nils, .nils, .nils, .nils])).n = H.n + 3 := rfl
  refine ⟨by omega, (by show H.n + 1 < lim; omega), (by show H.n + 2 < lim; omega), ?_⟩
  have hst := store_all (C := ctx.plus S) (vs := [.nils, .nils, .nils, .nils]) hto g3 rfl rfl rfl
  refine ⟨_, l1_0, ?_⟩
  refine ⟨.ptr (H.n + 1) 0, rfl, _, l2_0, ?_⟩
  refine Cl.of_sum (v := zN) (H' := three H (.cells true 61 [a0, a1]) (.cells true 92 [b0, b1, b2, b3]) (.cells true 92 [.nils, .nils, .nils, .nils])) (by simp only [sumE, Ctx.plus, hcal]; rfl) ?_
  refine ⟨_, l1_0, ?_⟩
  refine ⟨.ptr (H.n + 1) 2, rfl, _, l2_2, ?_⟩
  refine Cl.of_sum (v := zN) (H' := three H (.cells true 61 [a0, a1]) (.cells true 92 [b0, b1, b2, b3]) (.cells true 92 [.nils, .nils, .nils, .nils])) (by simp only [sumE, Ctx.plus, hcal]; rfl) ?_
  refine ⟨.agg [.nils, .nils, .nils, .nils], rfl, ?_⟩
  refine ⟨_, hst, ?_⟩
  refine ⟨draw_of (three H (.cells true 61 [a0, a1]) (.cells true 92 [b0, b1, b2, b3]) (.cells true 92 [.nils, .nils, .nils, .nils])) (by kernel_rfl) rfl ?_ ?_ ?_, ?_⟩
  · exact ⟨trivial, ⟨_, _, _, rfl, by omega, l1_0, s1_0⟩, trivial, ⟨_, _, _, rfl, by omega, l2_0, s2_0⟩, trivial, trivial, ⟨_, _, _, rfl, by omega, l1_0, s1_0⟩, trivial, ⟨_, _, _, rfl, by omega, l2_2, s2_2⟩, trivial, trivial, trivial, trivial⟩
  · repeat' (first | exact trivial | refine ⟨fun _ _ => rfl, ?_⟩)
  · repeat' (first | exact trivial | refine ⟨Nat.le_refl _, ?_⟩)
  · obtain ⟨f1, f2⟩ := three_set (H := H) (b1 := .cells true 61 [a0, a1]) (b2 := .cells true 92 [b0, b1, b2, b3]) (b3 := .cells true 92 [.nils, .nils, .nils, .nils]) (b4 := .cells true 92 [.nils, .nils, .nils, .nils]) (by omega)
    exact ⟨_, load_all hto rfl f1 rfl, rfl, f2⟩
theorem fn92 : ctx.fn 92 = some c92 := by kernel_rfl
theorem apply_run (h92 : S 92 = none) (hcal : S 170 = some (patPNNNN zN)) {H : Heap} {a0 a1 a2 a3 a4 a5 a6 a7 b0 b1 b2 b3 : AV} (hn : H.n + 10 < lim) (hs : ∀ x ∈ [a0, a1, a2, a3, a4, a5, a6, a7], Smp x) (hs' : ∀ x ∈ [b0, b1, b2, b3], Smp x) :
    Cl (ctx.plus S) 92 [.nilp, .agg [a0, a1, a2, a3, a4, a5, a6, a7], .agg [b0, b1, b2, b3]] H fun r H' => r = .agg [.nils, .nils, .nils, .nils] ∧ Grow H H' := by
  refine cl_of h92 fn92 ?_
  have hT : (ctx.plus S).ty = tget := rfl
  have hto : (ctx.plus S).ty 92 = some t92 := rfl
  obtain ⟨g1, g2, g3, g4⟩ := three_get (H := H) (b1 := .cells true 90 [a0, a1, a2, a3, a4, a5, a6, a7]) (b2 := .cells true 92 [b0, b1, b2, b3]) (b3 := .cells true 92 [.nils, .nils, .nils, .nils]) (by omega)
  have l1_0 := load_num (C := ctx.plus S) hT (off := 0) g1 (by simp)
  have s1_0 : (AV.agg [a0, a1]).same (.agg [a0, a1]) = true := same_agg fun x hx => hs x (by simp only [List.mem_cons, List.not_mem_nil, or_false] at hx ⊢; rcases hx with h | h <;> simp [h])
  have l2_0 := load_num (C := ctx.plus S) hT (off := 0) g2 (by simp)
  have s2_0 : (AV.agg [b0, b1]).same (.agg [b0, b1]) = true := same_agg fun x hx => hs' x (by simp only [List.mem_cons, List.not_mem_nil, or_false] at hx ⊢; rcases hx with h | h <;> simp [h])
  have l1_2 := load_num (C := ctx.plus S) hT (off := 2) g1 (by simp)
  have s1_2 : (AV.agg [a2, a3]).same (.agg [a2, a3]) = true := same_agg fun x hx => hs x (by simp only [List.mem_cons, List.not_mem_nil, or_false] at hx ⊢; rcases hx with h | h <;> simp [h])
  have l2_2 := load_num (C := ctx.plus S) hT (off := 2) g2 (by simp)
  have s2_2 : (AV.agg [b2, b3]).same (.agg [b2, b3]) = true := same_agg fun x hx => hs' x (by simp only [List.mem_cons, List.not_mem_nil, or_false] at hx ⊢; rcases hx with h | h <;> simp [h])
  have l1_4 := load_num (C := ctx.plus S) hT (off := 4) g1 (by simp)
  have s1_4 : (AV.agg [a4, a5]).same (.agg [a4, a5]) = true := same_agg fun x hx => hs x (by simp only [List.mem_cons, List.not_mem_nil, or_false] at hx ⊢; rcases hx with h | h <;> simp [h])
  have l1_6 := load_num (C := ctx.plus S) hT (off := 6) g1 (by simp)
  have s1_6 : (AV.agg [a6, a7]).same (.agg [a6, a7]) = true := same_agg fun x hx => hs x (by simp only [List.mem_cons, List.not_mem_nil, or_false] at hx ⊢; rcases hx with h | h <;> simp [h])
  have n3 : (three H (.cells true 90 [a0, a1, a2, a3, a4, a5, a6, a7]) (.cells true 92 [b0, b1, b2, b3]) (.cells true 92 [.nils, .nils, .nils, .nils])).n = H.n + 3 := rfl
  refine ⟨by omega, (by show H.n + 1 < lim; omega), (by show H.n + 2 < lim; omega), ?_⟩
  have hst := store_all (C := ctx.plus S) (vs := [.nils, .nils, .nils, .nils]) hto g3 rfl rfl rfl
  refine ⟨.ptr H.n 0, rfl, _, l1_0, ?_⟩
  refine ⟨.ptr (H.n + 1) 0, rfl, _, l2_0, ?_⟩
  refine ⟨.ptr H.n 2, rfl, _, l1_2, ?_⟩
  refine ⟨.ptr (H.n + 1) 2, rfl, _, l2_2, ?_⟩
  refine Cl.of_sum (v := zN) (H' := three H (.cells true 90 [a0, a1, a2, a3, a4, a5, a6, a7]) (.cells true 92 [b0, b1, b2, b3]) (.cells true 92 [.nils, .nils, .nils, .nils])) (by simp only [sumE, Ctx.plus, hcal]; rfl) ?_
  refine ⟨.ptr H.n 4, rfl, _, l1_4, ?_⟩
  refine ⟨.ptr (H.n + 1) 0, rfl, _, l2_0, ?_⟩
  refine ⟨.ptr H.n 6, rfl, _, l1_6, ?_⟩
  refine ⟨.ptr (H.n + 1) 2, rfl, _, l2_2, ?_⟩
  refine Cl.of_sum (v := zN) (H' := three H (.cells true 90 [a0, a1, a2, a3, a4, a5, a6, a7]) (.cells true 92 [b0, b1, b2, b3]) (.cells true 92 [.nils, .nils, .nils, .nils])) (by simp only [sumE, Ctx.plus, hcal]; rfl) ?_
  refine ⟨.agg [.nils, .nils, .nils, .nils], rfl, ?_⟩
  refine ⟨_, hst, ?_⟩
  refine ⟨draw_of (three H (.cells true 90 [a0, a1, a2, a3, a4, a5, a6, a7]) (.cells true 92 [b0, b1, b2, b3]) (.cells true 92 [.nils, .nils, .nils, .nils])) (by kernel_rfl) rfl ?_ ?_ ?_, ?_⟩
  · exact ⟨trivial, trivial, ⟨_, _, _, rfl, by omega, l1_0, s1_0⟩, trivial, ⟨_, _, _, rfl, by omega, l2_0, s2_0⟩, trivial, ⟨_, _, _, rfl, by omega, l1_2, s1_2⟩, trivial, ⟨_, _, _, rfl, by omega, l2_2, s2_2⟩, trivial, trivial, trivial, ⟨_, _, _, rfl, by omega, l1_4, s1_4⟩, trivial, ⟨_, _, _, rfl, by omega, l2_0, s2_0⟩, trivial, ⟨_, _, _, rfl, by omega, l1_6, s1_6⟩, trivial, ⟨_, _, _, rfl, by omega, l2_2, s2_2⟩, trivial, trivial, trivial, trivial⟩
  · repeat' (first | exact trivial | refine ⟨fun _ _ => rfl, ?_⟩)
  · repeat' (first | exact trivial | refine ⟨Nat.le_refl _, ?_⟩)
  · obtain ⟨f1, f2⟩ := three_set (H := H) (b1 := .cells true 90 [a0, a1, a2, a3, a4, a5, a6, a7]) (b2 := .cells true 92 [b0, b1, b2, b3]) (b3 := .cells true 92 [.nils, .nils, .nils, .nils]) (b4 := .cells true 92 [.nils, .nils, .nils, .nils]) (by omega)
    exact ⟨_, load_all hto rfl f1 rfl, rfl, f2⟩
theorem fn95 : ctx.fn 95 = some c95 := by kernel_rfl
theorem mat_run (h95 : S 95 = none) (hcal : S 170 = some (patPNNNN zN)) {H : Heap} {a0 a1 a2 a3 a4 a5 a6 a7 b0 b1 b2 b3 b4 b5 b6 b7 : AV} (hn : H.n + 10 < lim) (hs : ∀ x ∈ [a0, a1, a2, a3, a4, a5, a6, a7], Smp x) (hs' : ∀ x ∈ [b0, b1, b2, b3, b4, b5, b6, b7], Smp x) :
    Cl (ctx.plus S) 95 [.nilp, .agg [a0, a1, a2, a3, a4, a5, a6, a7], .agg [b0, b1, b2, b3, b4, b5, b6, b7]] H fun r H' => r = .agg [.nils, .nils, .nils, .nils, .nils, .nils, .nils, .nils] ∧ Grow H H' := by
  refine cl_of h95 fn95 ?_
  have hT : (ctx.plus S).ty = tget := rfl
  have hto : (ctx.plus S).ty 90 = some t90 := rfl
  obtain ⟨g1, g2, g3, g4⟩ := three_get (H := H) (b1 := .cells true 90 [a0, a1, a2, a3, a4, a5, a6, a7]) (b2 := .cells true 90 [b0, b1, b2, b3, b4, b5, b6, b7]) (b3 := .cells true 90 [.nils, .nils, .nils, .nils, .nils, .nils, .nils, .nils]) (by omega)
  have l1_0 := load_num (C := ctx.plus S) hT (off := 0) g1 (by simp)
  have s1_0 : (AV.agg [a0, a1]).same (.agg [a0, a1]) = true := same_agg fun x hx => hs x (by simp only [List.mem_cons, List.not_mem_nil, or_false] at hx ⊢; rcases hx with h | h <;> simp [h])
  have l2_0 := load_num (C := ctx.plus S) hT (off := 0) g2 (by simp)
  have s2_0 : (AV.agg [b0, b1]).same (.agg [b0, b1]) = true := same_agg fun x hx => hs' x (by simp only [List.mem_cons, List.not_mem_nil, or_false] at hx ⊢; rcases hx with h | h <;> simp [h])
  have l1_2 := load_num (C := ctx.plus S) hT (off := 2) g1 (by simp)
  have s1_2 : (AV.agg [a2, a3]).same (.agg [a2, a3]) = true := same_agg fun x hx => hs x (by simp only [List.mem_cons, List.not_mem_nil, or_false] at hx ⊢; rcases hx with h | h <;> simp [h])
  have l2_4 := load_num (C := ctx.plus S) hT (off := 4) g2 (by simp)
  have s2_4 : (AV.agg [b4, b5]).same (.agg [b4, b5]) = true := same_agg fun x hx => hs' x (by simp only [List.mem_cons, List.not_mem_nil, or_false] at hx ⊢; rcases hx with h | h <;> simp [h])
  have l2_2 := load_num (C := ctx.plus S) hT (off := 2) g2 (by simp)
  have s2_2 : (AV.agg [b2, b3]).same (.agg [b2, b3]) = true := same_agg fun x hx => hs' x (by simp only [List.mem_cons, List.not_mem_nil, or_false] at hx ⊢; rcases hx with h | h <;> simp [h])
  have l2_6 := load_num (C := ctx.plus S) hT (off := 6) g2 (by simp)
  have s2_6 : (AV.agg [b6, b7]).same (.agg [b6, b7]) = true := same_agg fun x hx => hs' x (by simp only [List.mem_cons, List.not_mem_nil, or_false] at hx ⊢; rcases hx with h | h <;> simp [h])
  have l1_4 := load_num (C := ctx.plus S) hT (off := 4) g1 (by simp)
  have s1_4 : (AV.agg [a4, a5]).same (.agg [a4, a5]) = true := same_agg fun x hx => hs x (by simp only [List.mem_cons, List.not_mem_nil, or_false] at hx ⊢; rcases hx with h | h <;> simp [h])
  have l1_6 := load_num (C := ctx.plus S) hT (off := 6) g1 (by simp)
  have s1_6 : (AV.agg [a6, a7]).same (.agg [a6, a7]) = true := same_agg fun x hx => hs x (by simp only [List.mem_cons, List.not_mem_nil, or_false] at hx ⊢; rcases hx with h | h <;> simp [h])
  have n3 : (three H (.cells true 90 [a0, a1, a2, a3, a4, a5, a6, a7]) (.cells true 90 [b0, b1, b2, b3, b4, b5, b6, b7]) (.cells true 90 [.nils, .nils, .nils, .nils, .nils, .nils, .nils, .nils])).n = H.n + 3 := rfl
  refine ⟨by omega, (by show H.n + 1 < lim; omega), (by show H.n + 2 < lim; omega), ?_⟩
  have hst := store_all (C := ctx.plus S) (vs := [.nils, .nils, .nils, .nils, .nils, .nils, .nils, .nils]) hto g3 rfl rfl rfl
  refine ⟨.ptr H.n 0, rfl, _, l1_0, ?_⟩
  refine ⟨.ptr (H.n + 1) 0, rfl, _, l2_0, ?_⟩
  refine ⟨.ptr H.n 2, rfl, _, l1_2, ?_⟩
  refine ⟨.ptr (H.n + 1) 4, rfl, _, l2_4, ?_⟩
  refine Cl.of_sum (v := zN) (H' := three H (.cells true 90 [a0, a1, a2, a3, a4, a5, a6, a7]) (.cells true 90 [b0, b1, b2, b3, b4, b5, b6, b7]) (.cells true 90 [.nils, .nils, .nils, .nils, .nils, .nils, .nils, .nils])) (by simp only [sumE, Ctx.plus, hcal]; rfl) ?_
  refine ⟨.ptr H.n 0, rfl, _, l1_0, ?_⟩
  refine ⟨.ptr (H.n + 1) 2, rfl, _, l2_2, ?_⟩
  refine ⟨.ptr H.n 2, rfl, _, l1_2, ?_⟩
  refine ⟨.ptr (H.n + 1) 6, rfl, _, l2_6, ?_⟩
  refine Cl.of_sum (v := zN) (H' := three H (.cells true 90 [a0, a1, a2, a3, a4, a5, a6, a7]) (.cells true 90 [b0, b1, b2, b3, b4, b5, b6, b7]) (.cells true 90 [.nils, .nils, .nils, .nils, .nils, .nils, .nils, .nils])) (by simp only [sumE, Ctx.plus, hcal]; rfl) ?_
  refine ⟨.ptr H.n 4, rfl, _, l1_4, ?_⟩
  refine ⟨.ptr (H.n + 1) 0, rfl, _, l2_0, ?_⟩
  refine ⟨.ptr H.n 6, rfl, _, l1_6, ?_⟩
  refine ⟨.ptr (H.n + 1) 4, rfl, _, l2_4, ?_⟩
  refine Cl.of_sum (v := zN) (H' := three H (.cells true 90 [a0, a1, a2, a3, a4, a5, a6, a7]) (.cells true 90 [b0, b1, b2, b3, b4, b5, b6, b7]) (.cells true 90 [.nils, .nils, .nils, .nils, .nils, .nils, .nils, .nils])) (by simp only [sumE, Ctx.plus, hcal]; rfl) ?_
  refine ⟨.ptr H.n 4, rfl, _, l1_4, ?_⟩
  refine ⟨.ptr (H.n + 1) 2, rfl, _, l2_2, ?_⟩
  refine ⟨.ptr H.n 6, rfl, _, l1_6, ?_⟩
  refine ⟨.ptr (H.n + 1) 6, rfl, _, l2_6, ?_⟩
  refine Cl.of_sum (v := zN) (H' := three H (.cells true 90 [a0, a1, a2, a3, a4, a5, a6, a7]) (.cells true 90 [b0, b1, b2, b3, b4, b5, b6, b7]) (.cells true 90 [.nils, .nils, .nils, .nils, .nils, .nils, .nils, .nils])) (by simp only [sumE, Ctx.plus, hcal]; rfl) ?_
  refine ⟨.agg [.nils, .nils, .nils, .nils, .nils, .nils, .nils, .nils], rfl, ?_⟩
  refine ⟨_, hst, ?_⟩
  refine ⟨draw_of (three H (.cells true 90 [a0, a1, a2, a3, a4, a5, a6, a7]) (.cells true 90 [b0, b1, b2, b3, b4, b5, b6, b7]) (.cells true 90 [.nils, .nils, .nils, .nils, .nils, .nils, .nils, .nils])) (by kernel_rfl) rfl ?_ ?_ ?_, ?_⟩
  · exact ⟨trivial, trivial, ⟨_, _, _, rfl, by omega, l1_0, s1_0⟩, trivial, ⟨_, _, _, rfl, by omega, l2_0, s2_0⟩, trivial, ⟨_, _, _, rfl, by omega, l1_2, s1_2⟩, trivial, ⟨_, _, _, rfl, by omega, l2_4, s2_4⟩, trivial, trivial, trivial, ⟨_, _, _, rfl, by omega, l1_0, s1_0⟩, trivial, ⟨_, _, _, rfl, by omega, l2_2, s2_2⟩, trivial, ⟨_, _, _, rfl, by omega, l1_2, s1_2⟩, trivial, ⟨_, _, _, rfl, by omega, l2_6, s2_6⟩, trivial, trivial, trivial, ⟨_, _, _, rfl, by omega, l1_4, s1_4⟩, trivial, ⟨_, _, _, rfl, by omega, l2_0, s2_0⟩, trivial, ⟨_, _, _, rfl, by omega, l1_6, s1_6⟩, trivial, ⟨_, _, _, rfl, by omega, l2_4, s2_4⟩, trivial, trivial, trivial, ⟨_, _, _, rfl, by omega, l1_4, s1_4⟩, trivial, ⟨_, _, _, rfl, by omega, l2_2, s2_2⟩, trivial, ⟨_, _, _, rfl, by omega, l1_6, s1_6⟩, trivial, ⟨_, _, _, rfl, by omega, l2_6, s2_6⟩, trivial, trivial, trivial, trivial⟩
  · repeat' (first | exact trivial | refine ⟨fun _ _ => rfl, ?_⟩)
  · repeat' (first | exact trivial | refine ⟨Nat.le_refl _, ?_⟩)
  · obtain ⟨f1, f2⟩ := three_set (H := H) (b1 := .cells true 90 [a0, a1, a2, a3, a4, a5, a6, a7]) (b2 := .cells true 90 [b0, b1, b2, b3, b4, b5, b6, b7]) (b3 := .cells true 90 [.nils, .nils, .nils, .nils, .nils, .nils, .nils, .nils]) (b4 := .cells true 90 [.nils, .nils, .nils, .nils, .nils, .nils, .nils, .nils]) (by omega)
    exact ⟨_, load_all hto rfl f1 rfl, rfl, f2⟩
end Go.PI

/- THE THIRD TABLE: the methods of a nil field. -/
open Go.Proofs
namespace Go.PI
theorem isN_some {x : Option (AV × Heap)} (h : isN x = true) : ∃ H, x = some (zN, H) := by unfold isN at h; split at h; exact ⟨_, rfl⟩; cases h
theorem isTQ_some {x : Option (AV × Heap)} (h : isTQ x = true) : ∃ H, x = some (tQ, H) := by unfold isTQ at h; split at h; exact ⟨_, rfl⟩; cases h
theorem isTS_some {x : Option (AV × Heap)} (h : isTS x = true) : ∃ H, x = some (tS, H) := by unfold isTS at h; split at h; exact ⟨_, rfl⟩; cases h
theorem isI0_some {x : Option (AV × Heap)} (h : isI0 x = true) : ∃ H, x = some (iv 0, H) := by unfold isI0 at h; split at h; exact ⟨_, rfl⟩; cases h
theorem isNl_some {x : Option (AV × Heap)} (h : isNl x = true) : ∃ H, x = some (.nils, H) := by unfold isNl at h; split at h; exact ⟨_, rfl⟩; cases h
theorem isF_some {x : Option (AV × Heap)} (h : isF x = true) : ∃ H, x = some (zF, H) := by unfold isF at h; split at h; exact ⟨_, rfl⟩; cases h
def isE (x : Option (AV × Heap)) : Bool := match x with | some (.str ⟨⟨[]⟩⟩, _) => true | _ => false
theorem isE_some {x : Option (AV × Heap)} (h : isE x = true) : ∃ H, x = some (.str .empty, H) := by unfold isE at h; split at h; exact ⟨_, rfl⟩; cases h
theorem rN (H1 : Heap) : Ren H1 id 0 zN zN := .agg (.cons .nils (.cons .nils .nil))
theorem rTQ (H1 : Heap) : Ren H1 id 0 tQ tQ := .tup (.cons (rN H1) (.cons (.int _ _) .nil))
theorem rTS (H1 : Heap) : Ren H1 id 0 tS tS := .tup (.cons .nils (.cons (.int _ _) .nil))
theorem rI0 (H1 : Heap) : Ren H1 id 0 (iv 0) (iv 0) := .int _ _
theorem rNl (H1 : Heap) : Ren H1 id 0 .nils .nils := .nils
theorem rE (H1 : Heap) : Ren H1 id 0 (.str .empty) (.str .empty) := .str _
theorem rF (H1 : Heap) : Ren H1 id 0 zF zF := .agg (.cons .nils (.cons (.int _ _) (.cons (.int _ _) (.cons (.int _ _) .nil))))
theorem rB (H1 : Heap) : Ren H1 id 0 (.bool true) (.bool true) := .bool _
set_option maxRecDepth 1000000
theorem q104 (a b : AV) : isE (quick ctx2 10000 104 [.nilp, .agg [a, b]] ⟨0, .nil⟩) = true := by kernel_rfl
theorem q102 (s : ByteArray) : isTQ (quick ctx2 10000 102 [.nilp, .str s] ⟨0, .nil⟩) = true := by kernel_rfl
theorem q54 : isTrue (quick ctx2 10000 54 [.agg [.nils, .nils], .agg [.nils, .nils]] ⟨0, .nil⟩) = true := by kernel_rfl
theorem q87 : isTrue (quick ctx2 10000 87 [.agg [.nils, .nils, .nils, .nils], .agg [.nils, .nils, .nils, .nils]] ⟨0, .nil⟩) = true := by kernel_rfl
theorem q94 : isTrue (quick ctx2 10000 94 [.agg [.nils, .nils, .nils, .nils, .nils, .nils, .nils, .nils], .agg [.nils, .nils, .nils, .nils, .nils, .nils, .nils, .nils]] ⟨0, .nil⟩) = true := by kernel_rfl
def patPS (v : AV) (us : List AV) (H : Heap) : Option (AV × Heap) := match us with | [.nilp, .str _] => some (v, H) | _ => none
def allNil : List AV → Bool
  | [] => true
  | .nils :: r => allNil r
  | _ => false
def patZZ (k : Nat) (us : List AV) (H : Heap) : Option (AV × Heap) :=
  match us with
  | [.agg l, .agg m] => match Nat.beq l.length k && allNil l && Nat.beq m.length k && allNil m with
    | true => some (.bool true, H)
    | false => none
  | _ => none
theorem allNil_eq {l : List AV} {k : Nat} (h : allNil l = true) (hk : l.length = k) : l = List.replicate k .nils := by
  induction l generalizing k with
  | nil => subst hk; rfl
  | cons a l ih =>
    unfold allNil at h
    split at h
    · cases ‹_ = []›
    · rename_i heq
      cases heq
      subst hk
      rw [List.length_cons, List.replicate_succ, ← ih h rfl]
    · cases h
theorem nils_args {μ : M} {k : Nat} {us : List Value} (h : VRs μ (List.replicate k .nils) us) : VRs (fun _ => none) (List.replicate k .nils) us := by
  induction k generalizing us with
  | zero => cases h; exact .nil
  | succ k ih =>
    rw [List.replicate_succ] at h ⊢
    cases h with
    | cons h1 h2 => exact .cons (by rw [h1.nils_inv]; exact .nils) (ih h2)
theorem shape_PS {P : Program} {C : Ctx} (hC : Ctx.Ok P C) {f : FuncId} {v : AV} (hv : ∀ H1, Ren H1 id 0 v v) (h : ∀ s, ∃ n H1, call C n f [.nilp, .str s] ⟨0, .nil⟩ = some (v, H1)) : SumR P f (patPS v) := by
  intro us H v' H' hS μ args w ha hH
  unfold patPS at hS
  split at hS
  · cases hS
    obtain ⟨a, hargs⟩ : ∃ a, a = args.toList := ⟨_, rfl⟩
    rw [← hargs] at ha
    cases ha with
    | cons h1 ha => cases ha with
      | cons h2 ha =>
        cases ha
        obtain ⟨n, H1, h⟩ := h _
        refine closed_any hC h hv ?_ hH
        rw [← hargs]
        exact .cons (by rw [h1.nilp_inv]; exact .nilp) (.cons (by rw [h2.str_inv]; exact .str _) .nil)
  · cases hS
theorem shape_ZZ {P : Program} {C : Ctx} (hC : Ctx.Ok P C) {f : FuncId} (k : Nat) (h : ∃ n H1, call C n f [.agg (List.replicate k .nils), .agg (List.replicate k .nils)] ⟨0, .nil⟩ = some (.bool true, H1)) : SumR P f (patZZ k) := by
  intro us H v' H' hS μ args w ha hH
  unfold patZZ at hS
  split at hS
  · split at hS
    · rename_i l m hb
      cases hS
      simp only [Bool.and_eq_true] at hb
      have e1 := allNil_eq hb.1.1.2 (Nat.eq_of_beq_eq_true hb.1.1.1)
      have e2 := allNil_eq hb.2 (Nat.eq_of_beq_eq_true hb.1.2)
      subst e1 e2
      obtain ⟨n, H1, h⟩ := h
      obtain ⟨a, hargs⟩ : ∃ a, a = args.toList := ⟨_, rfl⟩
      rw [← hargs] at ha
      cases ha with
      | cons h1 ha => cases ha with
        | cons h2 ha =>
          cases ha
          refine closed_any hC h rB ?_ hH
          rw [← hargs]
          cases h1 with
          | agg h1 => cases h2 with
            | agg h2 => exact .cons (.agg (nils_args h1)) (.cons (.agg (nils_args h2)) .nil)
    · cases hS
  · cases hS
theorem sr47 (h2 : Ctx.Ok Tryz.prog ctx2) : SumR Tryz.prog 47 (patP zF) := shape_P h2 rF (by
  obtain ⟨H, h⟩ := isF_some (q47)
  exact ⟨_, H, quick_sim h⟩)
theorem sr62 (h2 : Ctx.Ok Tryz.prog ctx2) : SumR Tryz.prog 62 (patPNN tQ) := shape_PNN h2 rTQ (fun x0 x1 x2 x3 => by
  obtain ⟨H, h⟩ := isTQ_some (q62 x0 x1 x2 x3)
  exact ⟨_, H, quick_sim h⟩)
theorem sr64 (h2 : Ctx.Ok Tryz.prog ctx2) : SumR Tryz.prog 64 (patPN zN) := shape_PN h2 rN (fun x0 x1 => by
  obtain ⟨H, h⟩ := isN_some (q64 x0 x1)
  exact ⟨_, H, quick_sim h⟩)
theorem sr66 (h2 : Ctx.Ok Tryz.prog ctx2) : SumR Tryz.prog 66 (patPNN zN) := shape_PNN h2 rN (fun x0 x1 x2 x3 => by
  obtain ⟨H, h⟩ := isN_some (q66 x0 x1 x2 x3)
  exact ⟨_, H, quick_sim h⟩)
theorem sr68 (h2 : Ctx.Ok Tryz.prog ctx2) : SumR Tryz.prog 68 (patPNN zN) := shape_PNN h2 rN (fun x0 x1 x2 x3 => by
  obtain ⟨H, h⟩ := isN_some (q68 x0 x1 x2 x3)
  exact ⟨_, H, quick_sim h⟩)
theorem sr70 (h2 : Ctx.Ok Tryz.prog ctx2) : SumR Tryz.prog 70 (patPNN zN) := shape_PNN h2 rN (fun x0 x1 x2 x3 => by
  obtain ⟨H, h⟩ := isN_some (q70 x0 x1 x2 x3)
  exact ⟨_, H, quick_sim h⟩)
theorem sr72 (h2 : Ctx.Ok Tryz.prog ctx2) : SumR Tryz.prog 72 (patPNI tS) := shape_PNI h2 rTS (fun x0 x1 x2 => by
  obtain ⟨H, h⟩ := isTS_some (q72 x0 x1 x2)
  exact ⟨_, H, quick_sim h⟩)
theorem sr74 (h2 : Ctx.Ok Tryz.prog ctx2) : SumR Tryz.prog 74 (patPN (iv 0)) := shape_PN h2 rI0 (fun x0 x1 => by
  obtain ⟨H, h⟩ := isI0_some (q74 x0 x1)
  exact ⟨_, H, quick_sim h⟩)
theorem sr76 (h2 : Ctx.Ok Tryz.prog ctx2) : SumR Tryz.prog 76 (patPNN (iv 0)) := shape_PNN h2 rI0 (fun x0 x1 x2 x3 => by
  obtain ⟨H, h⟩ := isI0_some (q76 x0 x1 x2 x3)
  exact ⟨_, H, quick_sim h⟩)
theorem sr78 (h2 : Ctx.Ok Tryz.prog ctx2) : SumR Tryz.prog 78 (patPN .nils) := shape_PN h2 rNl (fun x0 x1 => by
  obtain ⟨H, h⟩ := isNl_some (q78 x0 x1)
  exact ⟨_, H, quick_sim h⟩)
theorem sr80 (h2 : Ctx.Ok Tryz.prog ctx2) : SumR Tryz.prog 80 (patPN zN) := shape_PN h2 rN (fun x0 x1 => by
  obtain ⟨H, h⟩ := isN_some (q80 x0 x1)
  exact ⟨_, H, quick_sim h⟩)
theorem sr81 (h2 : Ctx.Ok Tryz.prog ctx2) : SumR Tryz.prog 81 (patPN zN) := shape_PN h2 rN (fun x0 x1 => by
  obtain ⟨H, h⟩ := isN_some (q81 x0 x1)
  exact ⟨_, H, quick_sim h⟩)
theorem sr85 (h2 : Ctx.Ok Tryz.prog ctx2) : SumR Tryz.prog 85 (patPVV zN) := shape_PVV h2 rN (fun x0 x1 x2 x3 x4 x5 x6 x7 => by
  obtain ⟨H, h⟩ := isN_some (q85 x0 x1 x2 x3 x4 x5 x6 x7)
  exact ⟨_, H, quick_sim h⟩)
theorem sr104 (h2 : Ctx.Ok Tryz.prog ctx2) : SumR Tryz.prog 104 (patPN (.str .empty)) := shape_PN h2 rE (fun x0 x1 => by
  obtain ⟨H, h⟩ := isE_some (q104 x0 x1)
  exact ⟨_, H, quick_sim h⟩)
theorem sr170 (h2 : Ctx.Ok Tryz.prog ctx2) : SumR Tryz.prog 170 (patPNNNN zN) := shape_PNNNN h2 rN (fun x0 x1 x2 x3 x4 x5 x6 x7 => by
  obtain ⟨H, h⟩ := isN_some (q170 x0 x1 x2 x3 x4 x5 x6 x7)
  exact ⟨_, H, quick_sim h⟩)
theorem sr102 (h2 : Ctx.Ok Tryz.prog ctx2) : SumR Tryz.prog 102 (patPS tQ) := shape_PS h2 rTQ (fun s => by
  obtain ⟨H, h⟩ := isTQ_some (q102 s)
  exact ⟨_, H, quick_sim h⟩)
theorem sr54 (h2 : Ctx.Ok Tryz.prog ctx2) : SumR Tryz.prog 54 (patZZ 2) := shape_ZZ h2 2 (by
  obtain ⟨H, h⟩ := isTrue_some q54
  exact ⟨_, H, quick_sim h⟩)
theorem sr87 (h2 : Ctx.Ok Tryz.prog ctx2) : SumR Tryz.prog 87 (patZZ 4) := shape_ZZ h2 4 (by
  obtain ⟨H, h⟩ := isTrue_some q87
  exact ⟨_, H, quick_sim h⟩)
theorem sr94 (h2 : Ctx.Ok Tryz.prog ctx2) : SumR Tryz.prog 94 (patZZ 8) := shape_ZZ h2 8 (by
  obtain ⟨H, h⟩ := isTrue_some q94
  exact ⟨_, H, quick_sim h⟩)
def S3 : FuncId → Option (List AV → Heap → Option (AV × Heap)) := fun f =>
  if f = 47 then some (patP zF) else
  if f = 54 then some (patZZ 2) else
  if f = 62 then some (patPNN tQ) else
  if f = 64 then some (patPN zN) else
  if f = 66 then some (patPNN zN) else
  if f = 68 then some (patPNN zN) else
  if f = 70 then some (patPNN zN) else
  if f = 72 then some (patPNI tS) else
  if f = 74 then some (patPN (iv 0)) else
  if f = 76 then some (patPNN (iv 0)) else
  if f = 78 then some (patPN .nils) else
  if f = 80 then some (patPN zN) else
  if f = 81 then some (patPN zN) else
  if f = 85 then some (patPVV zN) else
  if f = 87 then some (patZZ 4) else
  if f = 94 then some (patZZ 8) else
  if f = 102 then some (patPS tQ) else
  if f = 104 then some (patPN (.str .empty)) else
  if f = 170 then some (patPNNNN zN) else
  S2 f
noncomputable def ctx3 : Ctx := ctx.plus S3
theorem leaf_r {f g : FuncId} {s t : List AV → Heap → Option (AV × Heap)} {P : Program} (hok : SumR P g t) : f = g → some t = some s → SumR P f s := by
  rintro rfl h
  cases h
  exact hok
theorem ctx3_ok (h2 : Ctx.Ok Tryz.prog ctx2) : Ctx.Ok Tryz.prog ctx3 := by
  refine Ctx.plus_ok2 (C := ctx.plus S2) h2 (T := S3) fun f s h => ?_
  refine case_if h (fun hf hs => .inr (leaf_r (sr47 h2) hf hs)) fun h => ?_
  refine case_if h (fun hf hs => .inr (leaf_r (sr54 h2) hf hs)) fun h => ?_
  refine case_if h (fun hf hs => .inr (leaf_r (sr62 h2) hf hs)) fun h => ?_
  refine case_if h (fun hf hs => .inr (leaf_r (sr64 h2) hf hs)) fun h => ?_
  refine case_if h (fun hf hs => .inr (leaf_r (sr66 h2) hf hs)) fun h => ?_
  refine case_if h (fun hf hs => .inr (leaf_r (sr68 h2) hf hs)) fun h => ?_
  refine case_if h (fun hf hs => .inr (leaf_r (sr70 h2) hf hs)) fun h => ?_
  refine case_if h (fun hf hs => .inr (leaf_r (sr72 h2) hf hs)) fun h => ?_
  refine case_if h (fun hf hs => .inr (leaf_r (sr74 h2) hf hs)) fun h => ?_
  refine case_if h (fun hf hs => .inr (leaf_r (sr76 h2) hf hs)) fun h => ?_
  refine case_if h (fun hf hs => .inr (leaf_r (sr78 h2) hf hs)) fun h => ?_
  refine case_if h (fun hf hs => .inr (leaf_r (sr80 h2) hf hs)) fun h => ?_
  refine case_if h (fun hf hs => .inr (leaf_r (sr81 h2) hf hs)) fun h => ?_
  refine case_if h (fun hf hs => .inr (leaf_r (sr85 h2) hf hs)) fun h => ?_
  refine case_if h (fun hf hs => .inr (leaf_r (sr87 h2) hf hs)) fun h => ?_
  refine case_if h (fun hf hs => .inr (leaf_r (sr94 h2) hf hs)) fun h => ?_
  refine case_if h (fun hf hs => .inr (leaf_r (sr102 h2) hf hs)) fun h => ?_
  refine case_if h (fun hf hs => .inr (leaf_r (sr104 h2) hf hs)) fun h => ?_
  refine case_if h (fun hf hs => .inr (leaf_r (sr170 h2) hf hs)) fun h => ?_
  exact .inl h
end Go.PI

