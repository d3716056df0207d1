/- Own work of the verifier: CiInts CiRng CiCarry CiTrim. -/
import Derived.Test.YtdflpkkgjppmgaaGreatCfAP
import Derived.Test.YtdflpkkgjppmgaaGreatCfAV
set_option linter.all false
set_option exponentiation.threshold 3000
set_option linter.deprecated false
/- SLICES OF INTEGERS IN THE HEAP OF OUR OWN: what knows the types. -/
open Go.Proofs
namespace Go.PI
open IM
section
variable {C : Ctx} (hT : C.ty = tget)
include hT
theorem ty3 : C.ty 3 = some t3 := by rw [hT]; rfl
theorem ty22 : C.ty 22 = some t22 := by rw [hT]; rfl
theorem len_sl {ρ : Operand → Option AV} {x : Operand} {H : Heap} {v : AV} {xs : List Int} (hx : ρ x = some v) (h : Sl H v xs) :
    pureE C ρ (.call { callee := .builtin .len, args := #[x], argTypes := #[22] }) = some (iv xs.length) := by
  simp only [pureE, opds, hx, builtinP, ty22 hT, t22]
  unfold Sl at h
  split at h
  · subst h; rfl
  · subst h; rfl
  · simp [h.1]
  · simp [h.2.1]
  · exact h.elim
theorem idx_sl {ρ : Operand → Option AV} {x i : Operand} {H : Heap} {v : AV} {xs : List Int} {n : Int} {k : Nat} (hx : ρ x = some v) (hi : ρ i = some (iv n)) (h : Sl H v xs) (hk : n = k) (hl : k < xs.length) :
    pureE C ρ (.indexAddr 22 x i) = some (addr v k) := by
  subst hk
  have h0 : (0 : Int) ≤ (k : Int) ∧ (k : Int) < (xs.length : Int) := by omega
  simp only [pureE, hx, hi, ty22 hT, t22]
  unfold Sl at h
  split at h
  · subst h; simp at hl
  · subst h; simp at hl
  · obtain ⟨rfl, -⟩ := h
    simp [ty3 hT, t3, h0, hl, addr]
  · obtain ⟨rfl, rfl, -⟩ := h
    simp [ty3 hT, t3, h0, hl, addr]
  · exact h.elim
theorem load_sl {H : Heap} {v : AV} {xs : List Int} {k : Nat} {x : Int} (h : Sl H v xs) (hx : xs[k]? = some x) : loadE C 3 (addr v k) H = some (iv x) := by
  have hl : k < xs.length := (List.getElem?_eq_some_iff.1 hx).1
  have key : ∀ (cs : List AV) (o : Nat), (cs.drop o).take xs.length = ints xs → cs[o + k]? = some (iv x) := fun cs o e => by
    have h2 := ints_get hx
    rw [← e, List.getElem?_take, if_pos hl, List.getElem?_drop] at h2
    exact h2
  unfold Sl at h
  split at h
  · subst h; simp at hl
  · subst h; simp at hl
  · obtain ⟨rfl, rw, ty, cs, h2, h3, h4⟩ := h
    simp only [loadE, addr, ty3 hT, h2, partE, t3]
    exact key cs _ h4
  · obtain ⟨-, rfl, rw, ty, cs, h2, h3, h4⟩ := h
    simp only [loadE, addr, ty3 hT, h2, partE, t3]
    exact key cs _ h4
  · exact h.elim
end
def Ow (H : Heap) (v : AV) (b : Nat) (zs : List Int) (l : Nat) : Prop :=
  H.get b = .cells true 3 (ints zs) ∧ l ≤ zs.length ∧ ((∃ c, v = .sl b 0 l c ∧ l ≤ c ∧ c ≤ zs.length) ∨ v = .slu b 0 l 1)
theorem Ow.sl {H : Heap} {v : AV} {b : Nat} {zs : List Int} {l : Nat} (h : Ow H v b zs l) : Sl H v (zs.take l) := by
  obtain ⟨h1, h2, ⟨c, rfl, h3, h4⟩ | rfl⟩ := h
  · exact ⟨by simp; omega, true, _, _, h1, by rw [ints_length]; omega, by rw [List.drop_zero, ints_take]⟩
  · exact ⟨rfl, by simp; omega, true, _, _, h1, by rw [ints_length]; omega, by rw [List.drop_zero, ints_take]⟩
theorem Ow.lt {H : Heap} {v : AV} {b : Nat} {zs : List Int} {l : Nat} (h : Ow H v b zs l) : b < H.n := Heap.lt_of_get (by rw [h.1]; simp)
theorem Ow.keep {H H' : Heap} {v : AV} {b : Nat} {zs zs' : List Int} {l : Nat} (h : Ow H v b zs l) (hb : H'.get b = .cells true 3 (ints zs')) (hl : zs'.length = zs.length) : Ow H' v b zs' l := by
  obtain ⟨h1, h2, ⟨c, rfl, h3, h4⟩ | rfl⟩ := h
  · exact ⟨hb, by omega, .inl ⟨c, rfl, h3, by omega⟩⟩
  · exact ⟨hb, by omega, .inr rfl⟩
theorem splice_one {cs : List AV} {o : Nat} {v : AV} (h : o < cs.length) : splice cs o [v] = cs.set o v := by
  unfold splice
  rw [List.set_eq_take_append_cons_drop, if_pos h]
  simp
theorem store_ow {C : Ctx} (hT : C.ty = tget) {H : Heap} {v : AV} {b : Nat} {zs : List Int} {l k : Nat} {x : Int} (h : Ow H v b zs l) (hk : k < l) :
    storeE C 3 (addr v k) (iv x) H = some (H.set b (.cells true 3 (ints (zs.set k x)))) := by
  obtain ⟨h1, h2, h3⟩ := h
  have ha : addr v k = .ptr b k := by
    rcases h3 with ⟨c, rfl, -, -⟩ | rfl <;> simp [addr]
  rw [ha]
  simp only [storeE, ty3 hT, t3, h1, AV.cells, List.length_singleton, ints_length]
  rw [if_pos ⟨trivial, by omega, rfl⟩, splice_one (by rw [ints_length]; omega), ints_set]
end Go.PI
/- LOOPS OVER FUNCTIONS, BY OBLIGATIONS; OPEN REGIONS WITH SEVERAL STORES AT THE END. -/
open Go.Proofs
namespace Go.PI
open IM
theorem range_of {C : Ctx} {f : Operand} {ps : Array Tmp} {assign body : Code} {T : List AV} {H : Heap} {D : List Nat} {Q : Ex → St → Prop} {g : FuncId} {first caps : List AV}
    (hn : H.n + 1 < lim) (hf : opd T f = some (.fn g first caps)) (hg : (C.fn g).isNone = false)
    (h : Cl C g (first ++ [.yld (H.n + 1)] ++ caps) ((H.push .dfr).push (.loop { state := .ready, pending := none, tmps := T, params := ps, assign := assign, body := body, dfr := H.n })) fun _ H3 =>
      ∃ lp, H3.get (H.n + 1) = .loop lp ∧ lp.state ≠ .busy ∧
        match lp.pending with
        | none => Q .normal ⟨T, H3.set (H.n + 1) .dead, H.n :: D⟩
        | some c => Runs C none c ⟨T, H3.set (H.n + 1) .dead, H.n :: D⟩ Q) :
    ∃ n e s', rangeF C (ev C n) none f ps assign body ⟨T, H, D⟩ = some (e, s') ∧ Q e s' := by
  obtain ⟨n, v, H3, h1, lp, h2, h3, h4⟩ := h
  have hp : (H.push .dfr).n = H.n + 1 := rfl
  unfold call at h1
  cases hpend : lp.pending with
  | none =>
    rw [hpend] at h4
    refine ⟨n, _, _, ?_, h4⟩
    simp only [rangeF, hf, hg, startE, hp, h1, h2, hpend, if_neg h3]
    rw [if_neg (by omega)]
    simp
  | some c =>
    rw [hpend] at h4
    obtain ⟨m, e, s', g1, g2⟩ := h4
    refine ⟨max n m, e, s', ?_, g2⟩
    have h1' := callF_mono (C := C) (ev_mono (Nat.le_max_left n m)) h1
    simp only [rangeF, hf, hg, startE, hp, h1', h2, hpend, if_neg h3]
    rw [if_neg (by omega)]
    simpa using ev_mono (Nat.le_max_right n m) _ _ _ _ g1
theorem yield_of {C : Ctx} {H : Heap} {K : AV → Heap → Prop} {l : Nat} {us : List AV} {L : ALoop}
    (hL : H.get l = .loop L) (hlen : us.length = L.params.size) (hst : L.state = .ready)
    (h : Runs C (some l) L.assign ⟨foldPar L.tmps L.params.toList us, H, []⟩ fun e s1 => e = .normal ∧ s1.D = [] ∧ ∃ L1, s1.H.get l = .loop L1 ∧ L1.state = .ready ∧
      Runs C (some l) L.body ⟨s1.T, s1.H.set l (.loop { L1 with state := .busy }), []⟩ fun e s2 => s2.D = [] ∧ ∃ L2, s2.H.get l = .loop L2 ∧
        K (.bool e.jump.isNone) (s2.H.set l (.loop { L2 with state := if e.jump.isNone then .ready else .done, pending := e.jump }))) :
    ∃ n v H', yieldF (ev C n) l us H = some (v, H') ∧ K v H' := by
  obtain ⟨n1, e1, ⟨T1, H1, D1⟩, h1, rfl, rfl, L1, h2, h3, n2, e2, ⟨T2, H2, D2⟩, h4, h5, L2, h6, h7⟩ := h
  simp only at h2 h4 h5 h6 h7
  subst h5
  refine ⟨max n1 n2, _, _, ?_, h7⟩
  simp only [yieldF, hL, hlen, hst]
  rw [if_pos ⟨trivial, trivial⟩]
  rw [ev_mono (Nat.le_max_left n1 n2) _ _ _ _ h1]
  simp only [h2, h3]
  rw [ev_mono (Nat.le_max_right n1 n2) _ _ _ _ h4]
  simp only [h6, if_true]
set_option maxRecDepth 10000
set_option maxHeartbeats 1000000
theorem fn210 : ctx.fn 210 = some c210 := by kernel_rfl
theorem fn204 : ctx.fn 204 = some c204 := by kernel_rfl
variable (S : FuncId → Option (List AV → Heap → Option (AV × Heap)))
theorem backward_run (h204 : S 204 = none) {H : Heap} {v : AV} (hn : H.n + 2 < lim) : Cl (ctx.plus S) 204 [v] H fun r H' => r = .fn 210 [] [.ptr H.n 0] ∧ H' = H.push (.cells true 22 v.cells) := by
  refine cl_of h204 fn204 ?_
  refine ⟨by omega, ?_⟩
  refine ⟨_, rfl, ?_⟩
  exact ⟨rfl, rfl⟩
theorem back_run (h210 : S 210 = none) {H0 : Heap} {l b : Nat} {v : AV} {xs : List Int} (J : Nat → Heap → Prop) (R : Heap → Prop) (hlen : xs.length ≤ 1073741824)
    (hJ : ∀ k H, J k H → loadE (ctx.plus S) 22 (.ptr b 0) H = some v ∧ Sl H v xs)
    (hy : ∀ k e H, J (k + 1) H → xs[k]? = some e → ∃ n v' H', yieldF (ev (ctx.plus S) n) l [iv k, iv e] H = some (v', H') ∧ ((v' = .bool true ∧ J k H') ∨ (v' = .bool false ∧ R H')))
    (hend : ∀ H, J 0 H → R H) (h : J xs.length H0) : Cl (ctx.plus S) 210 [.yld l, .ptr b 0] H0 fun _ H' => R H' := by
  refine cl_of h210 fn210 ?_
  have hT : (ctx.plus S).ty = tget := rfl
  obtain ⟨hl, hs⟩ := hJ _ _ h
  refine ⟨v, hl, ?_⟩
  refine ⟨_, len_sl hT (v := v) rfl hs, ?_⟩
  refine ⟨⟨by omega, by omega⟩, ?_⟩
  refine ⟨fun m s => ∃ (k : Nat) (n : Int) (H' : Heap) (j2 j4 j5 j6 j7 j8 j9 j10 j11 j12 j13 j14 j15 j16 j17 j18 : AV),
    s = ⟨[.yld l, .ptr b 0, j2, iv n, j4, j5, j6, j7, j8, j9, j10, j11, j12, j13, j14, j15, j16, j17, j18], H', []⟩ ∧ m = k ∧ n = (k : Int) - 1 ∧ k ≤ xs.length ∧ J k H', ⟨xs.length, ?_⟩, ?_⟩
  · exact ⟨xs.length, _, H0, _, _, _, _, _, _, _, _, _, _, _, _, _, _, _, _, rfl, rfl, rfl, Nat.le_refl _, h⟩
  · rintro m s ⟨k, n, H', j2, j4, j5, j6, j7, j8, j9, j10, j11, j12, j13, j14, j15, j16, j17, j18, rfl, hm, rfl, hk, hJk⟩
    refine ⟨fun hge => ?_, fun hlt => ?_⟩
    · obtain ⟨k, rfl⟩ : ∃ j, k = j + 1 := ⟨k - 1, by omega⟩
      obtain ⟨hl', hs'⟩ := hJ _ _ hJk
      obtain ⟨e, he⟩ : ∃ e, xs[k]? = some e := ⟨xs[k]'(by omega), List.getElem?_eq_getElem _⟩
      have hk1 : ((k + 1 : Nat) : Int) - 1 = (k : Int) := by omega
      rw [hk1]
      refine ⟨v, hl', ?_⟩
      refine ⟨_, idx_sl hT (v := v) (n := (k : Int)) (k := k) rfl rfl hs' rfl (by omega), ?_⟩
      refine ⟨_, load_sl hT hs' he, ?_⟩
      obtain ⟨n, v', H2, hy1, hy2⟩ := hy k e H' hJk he
      refine ⟨n, v', H2, ?_, ?_⟩
      · simp only [effE, opd, opds]
        exact hy1
      · rcases hy2 with ⟨rfl, hJ2⟩ | ⟨rfl, hR⟩
        · refine ⟨⟨by omega, by omega⟩, ?_⟩
          exact ⟨k, by omega, k, _, H2, _, _, _, _, _, _, _, _, _, _, _, _, _, _, _, _, rfl, rfl, rfl, by omega, hJ2⟩
        · exact hR
    · have h0 : k = 0 := by omega
      subst h0
      exact hend _ hJk
theorem range_back (h210 : S 210 = none) {f : Operand} {p q : Tmp} {assign body : Code} {T : List AV} {H1 : Heap} {D : List Nat} {Q : Ex → St → Prop} {b : Nat} {v : AV} {xs : List Int}
    (hn : H1.n + 2 < lim) (hf : opd T f = some (.fn 210 [] [.ptr b 0])) (hlen : xs.length ≤ 1073741824)
    (I : Nat → Heap → Prop)
    (hI : ∀ k H, I k H → loadE (ctx.plus S) 22 (.ptr b 0) H = some v ∧ Sl H v xs ∧ H.n < lim ∧ H1.n + 1 < H.n)
    (hfr : ∀ k H x H', I k H → Upd H (H1.n + 1) x H' → I k H')
    (h0 : ∀ H, H.n = H1.n + 2 → (∀ A, A < H1.n → H.get A = H1.get A) → H.get H1.n = .dfr → I xs.length H)
    (hstep : ∀ k e H L, I (k + 1) H → xs[k]? = some e → H.get (H1.n + 1) = .loop L →
      vC (ctx.plus S) (some (H1.n + 1)) assign ⟨(T.set p (iv k)).set q (iv e), H, []⟩ fun e1 s1 => e1 = .normal ∧ s1.D = [] ∧ s1.H = H ∧ ∀ H' L', Upd H (H1.n + 1) (.loop L') H' →
        vC (ctx.plus S) (some (H1.n + 1)) body ⟨s1.T, H', []⟩ fun e2 s2 => s2.D = [] ∧ s2.H.get (H1.n + 1) = .loop L' ∧ (match e2 with
          | .normal => I k s2.H
          | .goto _ => False
          | e2 => s2.H.n < lim ∧ H1.n + 1 < s2.H.n ∧ ∀ H3, Upd s2.H (H1.n + 1) .dead H3 → Q e2 ⟨T, H3, H1.n :: D⟩))
    (hend : ∀ H H3, I 0 H → Upd H (H1.n + 1) .dead H3 → Q .normal ⟨T, H3, H1.n :: D⟩) :
    ∃ n e s', rangeF (ctx.plus S) (ev (ctx.plus S) n) none f #[p, q] assign body ⟨T, H1, D⟩ = some (e, s') ∧ Q e s' := by
  have hT : (ctx.plus S).ty = tget := rfl
  refine range_of (by omega) hf (by show (ctx.fn 210).isNone = false; rw [fn210]; rfl) ?_
  have hp1 := Heap.get_push (H := H1) (b := .dfr) (by omega)
  have hpn : (H1.push .dfr).n = H1.n + 1 := rfl
  have hp2 := Heap.get_push (H := H1.push .dfr) (b := .loop { state := .ready, pending := none, tmps := T, params := #[p, q], assign := assign, body := body, dfr := H1.n }) (by omega)
  have hpn2 : ((H1.push .dfr).push (.loop { state := .ready, pending := none, tmps := T, params := #[p, q], assign := assign, body := body, dfr := H1.n })).n = H1.n + 2 := rfl
  generalize hL0 : ({ state := .ready, pending := none, tmps := T, params := #[p, q], assign := assign, body := body, dfr := H1.n } : ALoop) = L0 at hp2 hpn2 ⊢
  generalize (H1.push .dfr).push (.loop L0) = H2 at hp2 hpn2 ⊢
  rw [hpn] at hp2
  refine (back_run S h210 (l := H1.n + 1) (b := b) (v := v) (xs := xs) (fun k H => I k H ∧ H.get (H1.n + 1) = .loop L0)
    (fun H3 => ∃ lp, H3.get (H1.n + 1) = .loop lp ∧ lp.state ≠ .busy ∧ match lp.pending with
        | none => Q .normal ⟨T, H3.set (H1.n + 1) .dead, H1.n :: D⟩
        | some c => Runs (ctx.plus S) none c ⟨T, H3.set (H1.n + 1) .dead, H1.n :: D⟩ Q) hlen (fun k H h => ⟨(hI k H h.1).1, (hI k H h.1).2.1⟩) ?_ ?_ ?_).mono (fun _ _ h => h)
  · rintro k e H ⟨hIk, hl⟩ he
    obtain ⟨-, -, hHn, hHl⟩ := hI _ _ hIk
    refine yield_of (K := fun v' H' => (v' = .bool true ∧ I k H' ∧ H'.get (H1.n + 1) = .loop L0) ∨ (v' = .bool false ∧ ∃ lp, H'.get (H1.n + 1) = .loop lp ∧ lp.state ≠ .busy ∧ match lp.pending with
        | none => Q .normal ⟨T, H'.set (H1.n + 1) .dead, H1.n :: D⟩
        | some c => Runs (ctx.plus S) none c ⟨T, H'.set (H1.n + 1) .dead, H1.n :: D⟩ Q)) hl (by subst hL0; rfl) (by subst hL0; rfl) ?_
    have hs := hstep k e H L0 hIk he hl
    have h1 := vC_ok hs
    subst hL0
    refine h1.mono ?_
    rintro e1 ⟨T1, H1', D1⟩ ⟨rfl, rfl, rfl, h2⟩
    refine ⟨rfl, rfl, _, hl, rfl, ?_⟩
    have hU := upd_set (b := H1.n + 1) (x := .loop { state := .busy, pending := none, tmps := T, params := #[p, q], assign := assign, body := body, dfr := H1.n }) hHl hHn
    refine (vC_ok (h2 _ _ hU)).mono ?_
    rintro e2 ⟨T2, H2', D2⟩ ⟨rfl, h3, h4⟩
    refine ⟨rfl, _, h3, ?_⟩
    cases e2 with
    | normal =>
      obtain ⟨-, -, g1, g2⟩ := hI _ _ h4
      have hU2 := upd_set (b := H1.n + 1) (x := .loop { state := .ready, pending := none, tmps := T, params := #[p, q], assign := assign, body := body, dfr := H1.n }) g2 g1
      exact .inl ⟨rfl, hfr _ _ _ _ h4 hU2, hU2.at_⟩
    | goto g => exact h4.elim
    | exit i =>
      obtain ⟨g1, g2, g3⟩ := h4
      have hU2 := upd_set (b := H1.n + 1) (x := .loop { state := .done, pending := some (.exit i), tmps := T, params := #[p, q], assign := assign, body := body, dfr := H1.n }) g2 g1
      have hU3 := upd_set (b := H1.n + 1) (x := .dead) (by rw [hU2.n]; exact g2) (by rw [hU2.n]; exact g1)
      refine .inr ⟨rfl, _, hU2.at_, by simp, ?_⟩
      exact ⟨1, _, _, rfl, g3 _ (hU2.trans hU3)⟩
    | ret =>
      obtain ⟨g1, g2, g3⟩ := h4
      have hU2 := upd_set (b := H1.n + 1) (x := .loop { state := .done, pending := some .ret, tmps := T, params := #[p, q], assign := assign, body := body, dfr := H1.n }) g2 g1
      have hU3 := upd_set (b := H1.n + 1) (x := .dead) (by rw [hU2.n]; exact g2) (by rw [hU2.n]; exact g1)
      refine .inr ⟨rfl, _, hU2.at_, by simp, ?_⟩
      exact ⟨1, _, _, rfl, g3 _ (hU2.trans hU3)⟩
  · rintro H ⟨hI0, hl⟩
    obtain ⟨-, -, g1, g2⟩ := hI _ _ hI0
    refine ⟨L0, hl, by subst hL0; simp, ?_⟩
    have hU3 := upd_set (b := H1.n + 1) (x := .dead) g2 g1
    subst hL0
    exact hend _ _ hI0 hU3
  · refine ⟨h0 _ hpn2 (fun A hA => ?_) ?_, ?_⟩
    · rw [hp2, if_neg (by omega), hp1, if_neg (by omega)]
    · rw [hp2, if_neg (by omega), hp1, if_pos rfl]
    · rw [hp2, if_pos rfl]
end Go.PI
open Go.Proofs
namespace Go.PI
open IM
theorem fn155 : ctx.fn 155 = some c155 := by kernel_rfl
theorem carryL_snoc (xs : List Int) (e : Int) : ∀ o, carryL o (xs ++ [e]) = carryL o xs ++ [(e.tmod 100000000 + carryO o xs).tmod 100000000] ∧ carryO o (xs ++ [e]) = e.tdiv 100000000 + (e.tmod 100000000 + carryO o xs).tdiv 100000000 := by
  induction xs with
  | nil => intro o; simp [carryL, carryO]
  | cons x xs ih => intro o; simp only [List.cons_append, carryL, carryO, ih]; simp
set_option maxRecDepth 10000
set_option maxHeartbeats 1000000
theorem carry_run (S : FuncId → Option (List AV → Heap → Option (AV × Heap))) (hS : S 155 = none) {H : Heap} {v : AV} {b : Nat} {zs : List Int} {l : Nat} (hn : H.n < lim) (hlb : l ≤ 1073741824) (h : Ow H v b zs l) (hr : ∀ x ∈ zs.take l, In64 x) :
    Cl (ctx.plus S) 155 [v] H fun r H' => r = iv (carryO 0 (zs.take l)) ∧ Upd H b (.cells true 3 (ints (carryL 0 (zs.take l) ++ zs.drop l))) H' := by
  refine cl_of hS fn155 ?_
  have hT : (ctx.plus S).ty = tget := rfl
  have hlen : (zs.take l).length = l := by have := h.2.1; simp; omega
  refine ⟨_, len_sl hT (v := v) rfl h.sl, ?_⟩
  rw [hlen]
  refine ⟨fun m s => ∃ (i : Nat) (n o : Int) (H' : Heap) (j1 j2 j4 j5 j6 j10 j11 j12 j13 j14 j15 j16 j17 j18 j19 j20 j21 j22 j23 j24 j25 j26 j27 j28 j29 : AV),
    s = ⟨[v, j1, j2, iv o, j4, j5, j6, v, iv l, iv n, j10, j11, j12, j13, j14, j15, j16, j17, j18, j19, j20, j21, j22, j23, j24, j25, j26, j27, j28, j29], H', []⟩ ∧ m = l - i ∧ n = i ∧ o = carryO 0 (zs.take i) ∧ i ≤ l ∧
    Upd H b (.cells true 3 (ints (carryL 0 (zs.take i) ++ zs.drop i))) H', ⟨l, ?_⟩, ?_⟩
  · exact ⟨0, 0, 0, H, _, _, _, _, _, _, _, _, _, _, _, _, _, _, _, _, _, _, _, _, _, _, _, _, _, rfl, rfl, rfl, rfl, Nat.zero_le _, Upd.refl (by simpa [carryL] using h.1)⟩
  · rintro m s ⟨i, n, o, H', j1, j2, j4, j5, j6, j10, j11, j12, j13, j14, j15, j16, j17, j18, j19, j20, j21, j22, j23, j24, j25, j26, j27, j28, j29, rfl, rfl, rfl, ho, hi, hU⟩
    have hlz := h.2.1
    refine ⟨fun hlt => ?_, fun hge => ?_⟩
    · have hi' : i < l := by omega
      obtain ⟨e, he⟩ : ∃ e, zs[i]? = some e := ⟨zs[i]'(by omega), List.getElem?_eq_getElem _⟩
      have heB := hr e (List.mem_of_getElem? (i := i) (by rw [List.getElem?_take, if_pos hi']; exact he))
      have hO := carryO_small (zs.take i) (fun x hx => hr x (by rw [show zs.take i = (zs.take l).take i by rw [List.take_take, Nat.min_eq_left hi]] at hx; exact List.mem_of_mem_take hx)) 0 (by unfold OvB; omega)
      have hO' := ovB_next heB hO
      obtain ⟨s1, s2⟩ := carryL_snoc (zs.take i) e 0
      rw [← ho] at hO hO' s1 s2
      have hcl : (carryL 0 (zs.take i)).length = i := by rw [carry_length]; simp; omega
      have hOw : Ow H' v b (carryL 0 (zs.take i) ++ zs.drop i) l := h.keep hU.at_ (by simp [hcl]; omega)
      have hget : ((carryL 0 (zs.take i) ++ zs.drop i).take l)[i]? = some e := by
        rw [List.getElem?_take, if_pos hi', List.getElem?_append_right (by omega), hcl]
        simpa using he
      have hsl := hOw.sl
      have hlen' : ((carryL 0 (zs.take i) ++ zs.drop i).take l).length = l := by simp [hcl]; omega
      unfold OvB at hO hO'
      have t1 := tq e
      have t2 := tq (e.tmod 100000000 + o)
      refine ⟨_, idx_sl hT (v := v) (n := i) rfl rfl hsl rfl (by omega), ?_⟩
      refine ⟨_, load_sl hT hsl hget, ?_⟩
      refine ⟨by decide, ?_⟩
      refine ⟨⟨by omega, by omega⟩, ?_⟩
      refine ⟨by decide, ?_⟩
      refine ⟨_, idx_sl hT (v := v) (n := i) rfl rfl hsl rfl (by omega), ?_⟩
      refine ⟨_, store_ow hT hOw hi', ?_⟩
      refine ⟨⟨by decide, ⟨by omega, by omega⟩⟩, ?_⟩
      refine ⟨⟨by decide, ⟨by omega, by omega⟩⟩, ?_⟩
      refine ⟨⟨by omega, by omega⟩, ?_⟩
      refine ⟨⟨by omega, by omega⟩, ?_⟩
      refine ⟨l - (i + 1), by omega, i + 1, _, _, _, _, _, _, _, _, _, _, _, _, _, _, _, _, _, _, _, _, _, _, _, _, _, _, _, _, rfl, rfl, rfl, ?_, hi', ?_⟩
      · rw [take_snoc he, s2]
      · rw [take_snoc he, s1]
        have hset : (carryL 0 (zs.take i) ++ zs.drop i).set i ((e.tmod 100000000 + o).tmod 100000000) = carryL 0 (zs.take i) ++ [(e.tmod 100000000 + o).tmod 100000000] ++ zs.drop (i + 1) := by
          rw [List.set_append_right _ _ (by omega), hcl, Nat.sub_self, drop_of_get he]
          simp
        rw [← hset]
        exact hU.trans (upd_set hOw.lt (by rw [hU.n]; exact hn))
    · have : i = l := by omega
      subst this
      subst ho
      exact ⟨rfl, hU⟩
end Go.PI
open Go.Proofs
namespace Go.PI
open IM
theorem fn156 : ctx.fn 156 = some c156 := by kernel_rfl
theorem fn183 : ctx.fn 183 = some c183 := by kernel_rfl
theorem fn157 : ctx.fn 157 = some c157 := by kernel_rfl
theorem trim_is {xs : List Int} {n : Nat} (hn : n ≤ xs.length) (hz : ∀ j, n ≤ j → j < xs.length → xs[j]? = some 0) (ht : n = 0 ∨ ∃ x, xs[n - 1]? = some x ∧ x ≠ 0) : trimL xs = xs.take n := by
  have h1 : xs = xs.take n ++ List.replicate (xs.length - n) 0 := by
    apply List.ext_getElem?
    intro j
    by_cases hj : j < n
    · rw [List.getElem?_append_left (by simp; omega), List.getElem?_take, if_pos hj]
    · rw [List.getElem?_append_right (by simp; omega)]
      by_cases hl : j < xs.length
      · rw [hz j (by omega) hl, List.getElem?_replicate, List.length_take, if_pos (by omega)]
      · rw [List.getElem?_eq_none (by omega), List.getElem?_eq_none (by simp; omega)]
  conv => lhs; rw [h1, trim_zeros]
  apply trim_of_top
  rcases ht with rfl | ⟨x, hx, hx0⟩
  · exact .inl (by simp)
  · by_cases h0 : n = 0
    · subst h0; exact .inl (by simp)
    · exact .inr ⟨xs.take (n - 1), x, by rw [← take_snoc hx]; congr 1; omega, hx0⟩
theorem Ow.cut {H : Heap} {v : AV} {b : Nat} {zs : List Int} {l : Nat} (h : Ow H v b zs l) {C : Ctx} (hT : C.ty = tget) {ρ : Operand → Option AV} {x y : Operand} {k : Nat} (hx : ρ x = some v) (hy : ρ y = some (iv k)) (hk : k ≤ l) :
    ∃ r, pureE C ρ (.slice 22 x none (some y) none) = some r ∧ Ow H r b zs k := by
  obtain ⟨h1, h2, ⟨c, rfl, h3, h4⟩ | rfl⟩ := h
  · refine ⟨.sl b 0 k c, ?_, h1, by omega, .inl ⟨c, rfl, by omega, h4⟩⟩
    have : (0 : Int) ≤ (k : Int) ∧ (k : Int) ≤ (c : Int) := by omega
    simp only [pureE, hx, hy, ty22 hT, t22, ty3 hT, bound, this]
    simp [t3]
  · have : (0 : Int) ≤ (k : Int) ∧ (k : Int) ≤ (l : Int) := by omega
    refine ⟨.slu b 0 k 1, ?_, h1, by omega, .inr rfl⟩
    simp only [pureE, hx, hy, ty22 hT, t22, ty3 hT, bound, this]
    by_cases hl : 0 < l
    · simp [t3, hl]
    · simp [t3, hl]
set_option maxRecDepth 10000
set_option maxHeartbeats 1000000
variable (S : FuncId → Option (List AV → Heap → Option (AV × Heap)))
theorem trim_run (hS : S 156 = none) {H : Heap} {v : AV} {b : Nat} {zs : List Int} {l : Nat} (hlb : l ≤ 1073741824) (h : Ow H v b zs l) :
    Cl (ctx.plus S) 156 [v] H fun r H' => H = H' ∧ Ow H r b zs (trimL (zs.take l)).length := by
  refine cl_of hS fn156 ?_
  have hT : (ctx.plus S).ty = tget := rfl
  have hlz := h.2.1
  have hlen : (zs.take l).length = l := by simp; omega
  refine ⟨_, len_sl hT (v := v) rfl h.sl, ?_⟩
  rw [hlen]
  refine ⟨fun m s => ∃ (i : Nat) (n : Int) (j1 j2 j4 j5 j6 j7 j8 j9 j10 j11 j12 j13 j14 j15 j16 j17 j18 j19 j20 : AV),
    s = ⟨[v, j1, j2, iv n, j4, j5, j6, j7, j8, j9, j10, j11, j12, j13, j14, j15, j16, j17, j18, j19, j20], H, []⟩ ∧ m = i ∧ n = i ∧ i ≤ l ∧ (∀ j, i ≤ j → j < l → zs[j]? = some 0), ⟨l, ?_⟩, ?_⟩
  · exact ⟨l, l, _, _, _, _, _, _, _, _, _, _, _, _, _, _, _, _, _, _, _, rfl, rfl, rfl, Nat.le_refl _, fun j h1 h2 => by omega⟩
  · rintro m s ⟨i, n, j1, j2, j4, j5, j6, j7, j8, j9, j10, j11, j12, j13, j14, j15, j16, j17, j18, j19, j20, rfl, hm, rfl, hi, hz⟩
    have fin : (i = 0 ∨ ∃ x, zs[i - 1]? = some x ∧ x ≠ 0) → (trimL (zs.take l)).length = i := fun ht => by
      rw [trim_is (n := i) (by omega) (fun j h1 h2 => by rw [List.getElem?_take, if_pos (by omega)]; exact hz j h1 (by omega))]
      · simp; omega
      · rcases ht with h0 | ⟨x, hx, hx0⟩
        · exact .inl h0
        · by_cases h0 : i = 0
          · exact .inl h0
          · exact .inr ⟨x, by rw [List.getElem?_take, if_pos (by omega)]; exact hx, hx0⟩
    refine ⟨fun hgt => ?_, fun hle => ?_⟩
    · obtain ⟨e, he⟩ : ∃ e, zs[i - 1]? = some e := ⟨zs[i - 1]'(by omega), List.getElem?_eq_getElem _⟩
      refine ⟨⟨by omega, by omega⟩, ?_⟩
      refine ⟨_, idx_sl hT (v := v) (n := (i : Int) - 1) (k := i - 1) rfl rfl h.sl (by omega) (by omega), ?_⟩
      refine ⟨_, load_sl hT h.sl (x := e) (by rw [List.getElem?_take, if_pos (by omega)]; exact he), ?_⟩
      refine ⟨fun h0 => ?_, fun h0 => ?_⟩
      · refine ⟨⟨by omega, by omega⟩, ?_⟩
        refine ⟨i - 1, by omega, i - 1, _, _, _, _, _, _, _, _, _, _, _, _, _, _, _, _, _, _, _, _, rfl, rfl, by omega, by omega, fun j h1 h2 => ?_⟩
        by_cases hj : j = i - 1
        · subst hj; rw [he, h0]
        · exact hz j (by omega) h2
      · obtain ⟨r, hr1, hr2⟩ := h.cut hT (ρ := fun o => match o with | .tmp 18 => some v | _ => some (iv i)) (x := .tmp 18) (y := .tmp 19) (k := i) rfl rfl hi
        refine ⟨r, hr1, ?_⟩
        refine ⟨rfl, ?_⟩
        rw [fin (.inr ⟨e, he, h0⟩)]
        exact hr2
    · obtain ⟨r, hr1, hr2⟩ := h.cut hT (ρ := fun o => match o with | .tmp 18 => some v | _ => some (iv i)) (x := .tmp 18) (y := .tmp 19) (k := i) rfl rfl hi
      refine ⟨r, hr1, ?_⟩
      refine ⟨rfl, ?_⟩
      rw [fin (.inl (by omega))]
      exact hr2
def sgnL (xs : List Int) : Int :=
  match xs.getLast? with
  | some t => if t < 0 then -1 else 1
  | none => 0
theorem sign_run (hS : S 183 = none) {H : Heap} {v : AV} {xs : List Int} (hlb : xs.length ≤ 1073741824) (h : Sl H v xs) :
    Cl (ctx.plus S) 183 [v] H fun r H' => r = iv (sgnL xs) ∧ H = H' := by
  refine cl_of hS fn183 ?_
  have hT : (ctx.plus S).ty = tget := rfl
  refine ⟨_, len_sl hT (v := v) rfl h, ?_⟩
  refine ⟨fun h0 => ?_, fun h0 => ?_⟩
  · have : xs = [] := List.eq_nil_of_length_eq_zero (by omega)
    subst this
    exact ⟨rfl, rfl⟩
  · obtain ⟨e, he⟩ : ∃ e, xs[xs.length - 1]? = some e := ⟨xs[xs.length - 1]'(by omega), List.getElem?_eq_getElem _⟩
    have hs : sgnL xs = if e < 0 then -1 else 1 := by
      unfold sgnL
      rw [List.getLast?_eq_getElem?, he]
    refine ⟨_, len_sl hT (v := v) rfl h, ?_⟩
    refine ⟨⟨by omega, by omega⟩, ?_⟩
    refine ⟨_, idx_sl hT (v := v) (n := (xs.length : Int) - 1) (k := xs.length - 1) rfl rfl h (by omega) (by omega), ?_⟩
    refine ⟨_, load_sl hT h he, ?_⟩
    refine ⟨fun hn => ?_, fun hn => ?_⟩
    · exact ⟨by rw [hs, if_pos hn], rfl⟩
    · exact ⟨by rw [hs, if_neg (by omega)], rfl⟩
end Go.PI
