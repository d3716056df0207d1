/- Own work of the verifier: PiDraw4 PiDraw5 PiDraw6. -/
import Derived.Test.YtefajaiioljjoaaOmAH
set_option linter.all false
set_option exponentiation.threshold 3000
set_option linter.deprecated false
namespace Go.PI
variable {P : Program} {C : Ctx}
section
variable {ih : Ih} {L : List Oper} {Tt : Nat → List AV} {Hh : Nat → Heap} {fc : Nat → Nat → Prop}
variable {μ0 : M} {w0 : World} {a0 : Act} {S : Nat → Prop} {a : Act} {w : World} {p : Nat} {μ : M} {k : Nat} {o : Oper}
theorem Inv.still_done (tr : Trc C ih L Tt Hh fc) (I : Inv C L Tt Hh μ0 w0 a0 S a w p μ) (R : Ready L S k o) (hke : kindOf C o.op ≠ .eff) (hna : ¬ Act1 C L Tt k) {v : AV} {u : Value}
    (hT : Tt (k + 1) = putT (Tt k) o.dst v) (hv : VR (μ.cut (max (Hh (k + 1)).n (Hh p).n)) v u) : Inv C L Tt Hh μ0 w0 a0 (fun i => S i ∨ i = k) (a.put o.dst u) w p μ where
  hp := I.hp
  bd := I.bd
  eff := fun j y hy hje => by
    rw [← I.eff j y hy hje]
    constructor
    · rintro (hs | rfl)
      · exact hs
      · rw [R.ho] at hy; cases hy; exact absurd hje hke
    · exact .inl
  cl := fun j y hy hs e he hb => by
    rcases hs with hs | rfl
    · exact .inl (I.cl j y hy hs e he hb)
    · rw [R.ho] at hy; cases hy; exact .inl (R.dep e he hb)
  HR := I.HR
  dom := fun A b h1 h2 => by
    obtain ⟨i, q1, q2, q3, q4⟩ := I.dom A b h1 h2
    exact ⟨i, q1, .inl q2, q3, q4⟩
  pend := fun i h1 h2 h3 => I.pend i h1 h2 fun h => h3 (.inl h)
  early := fun i x h1 h2 h3 h4 h5 => by
    rcases h5 with h5 | rfl
    · exact I.early i x h1 h2 h3 h4 h5
    · exact absurd ⟨x, h2, h3, h4⟩ hna
  dist := fun i bi h1 h2 h3 => by
    rcases h3 with h3 | rfl
    · exact I.dist i bi h1 h2 h3
    · exact absurd h2 hna
  ops := I.ops_put tr R hT (M.le.refl _) (Nat.le_refl _) hv
  len := by rw [put_size]; exact I.len
  defs := by rw [put_defers]; exact I.defs
  le0 := I.le0
  eq0 := I.eq0
  os := I.os
  tape := I.tape
  output := I.output
  size := I.size
  keep := fun c h1 h2 => by
    obtain ⟨k1, k2, k3⟩ := I.keep c h1 h2
    refine ⟨k1, k2, fun i bi q1 q2 q3 => ?_⟩
    rcases q3 with q3 | rfl
    · exact k3 i bi q1 q2 q3
    · exact absurd q2 hna
  ro := I.ro
set_option maxHeartbeats 400000 in
theorem Inv.alloc_done (tr : Trc C ih L Tt Hh fc) (I : Inv C L Tt Hh μ0 w0 a0 S a w p μ) (R : Ready L S k o) (hka : kindOf C o.op = .alloc) (hw : Region.wanted o (ayielded L (Tt k)) = true) {ty : TypeId} {cs : List AV} {f : Nat → AV} (hal : allocE C (opd (Tt k)) o.op = some (.cells true ty cs, f))
    {carr : Array Value} (hcs : VRs (μ.cut (max (Hh k).n (Hh p).n)) cs carr.toList) {u : Value} (hval : ∀ (ν : M) (A : Nat) (bi : BI), ν A = some bi → bi.c = w.heap.size → bi.base = 0 → VR ν (f A) u)
    (hT : Tt (k + 1) = putT (Tt k) o.dst (f (Hh k).n)) : Inv C L Tt Hh μ0 w0 a0 (fun i => S i ∨ i = k) (a.put o.dst u) (w.alloc (.cells carr ty)) p (μ.set (Hh k).n ⟨w.heap.size, carr.size, 0⟩) := by
  have hkl : k < L.length := (List.getElem?_eq_some_iff.1 R.ho).1
  have hact : Act1 C L Tt k := ⟨o, R.ho, hka, hw⟩
  have hn1 := tr.act_n hact
  have hnone : μ (Hh k).n = none := by
    rcases Nat.lt_or_ge k p with h | h
    · exact I.pend k h hact R.hn
    · exact I.dom_none tr h hact R.hn
  obtain ⟨bi, hbi⟩ : ∃ bi : BI, bi = ⟨w.heap.size, carr.size, 0⟩ := ⟨_, rfl⟩
  rw [← hbi]
  have hbc : bi.c = w.heap.size := by rw [hbi]
  have hle : M.le μ (μ.set (Hh k).n bi) := M.le_set hnone
  have hset : ∀ X, X ≠ (Hh k).n → (μ.set (Hh k).n bi) X = μ X := fun X h => by unfold M.set; rw [if_neg h]
  have hheap : ∀ j, j < w.heap.size → (w.alloc (.cells carr ty)).heap[j]? = w.heap[j]? := fun j hj => RowKit.Below.heap_alloc _ _ _ hj
  have hnew : (w.alloc (.cells carr ty)).heap[bi.c]? = some (.cells carr ty) := by rw [hbc]; exact World.alloc_heap_new _ _
  have hsz : (w.alloc (.cells carr ty)).heap.size = w.heap.size + 1 := World.size_alloc _ _
  have hblk : ∀ ν : M, M.le (μ.cut (max (Hh k).n (Hh p).n)) ν → BlkR ν (w.alloc (.cells carr ty)) bi (.cells true ty cs) := fun ν hν =>
    blk0 (by rw [hbi]) ⟨carr, (0, 0), hnew, by rw [hbi], by rw [hcs.length]; simp, by rw [hcs.length, List.take_of_length_le (Nat.le_refl _)]; exact hcs.mono hν, fun _ => rfl⟩
  have hother : ∀ A b, A ≠ (Hh k).n → μ A = some b → (A < (Hh p).n → ((Hh p).get A).live = true) → b.c < w.heap.size := fun A b hA hm hl => by
    rcases Nat.lt_or_ge A (Hh p).n with h | h
    · exact (I.HR.blk A b (hl h) (by rw [M.cut_get h]; exact hm)).1
    · obtain ⟨i, h1, h2, ⟨x, t1, t2, t3⟩, h4⟩ := I.dom A b h hm
      obtain ⟨blk, g, t4, -⟩ := tr.alloc_step t1 t2 t3
      obtain ⟨b', e1, e2, -⟩ := I.early i x h1 t1 t2 t3 h2 blk g t4
      rw [h4, e1] at hm; cases hm; exact e2
  have hHR : PI.HR ((μ.set (Hh k).n bi).cut (Hh p).n) (Hh p) (w.alloc (.cells carr ty)) := by
    rcases Nat.lt_or_ge k p with h | h
    · have hA : (Hh k).n < (Hh p).n := by
        have := tr.monos (i := k + 1) (j := p) h I.hp
        omega
      have hcutset : (μ.set (Hh k).n bi).cut (Hh p).n = (μ.cut (Hh p).n).set (Hh k).n bi := funext fun X => by
        by_cases e : X = (Hh k).n
        · subst e; rw [M.cut_get hA, M.set_self, M.set_self]
        · have h1 : ((μ.cut (Hh p).n).set (Hh k).n bi) X = (μ.cut (Hh p).n) X := by unfold M.set; rw [if_neg e]
          rw [h1]; unfold M.cut; rw [hset X e]
      rw [hcutset]
      have hget : (Hh p).get (Hh k).n = .cells true ty cs := tr.alloc k o R.ho hka hw ty cs f hal p I.hp h I.bd fun j x hx hje => ⟨fun hf => (I.eff j x hx hje).1 (I.fck tr R hf), fun hf => by
        rcases Nat.lt_or_ge j p with h' | h'
        · exact absurd ((I.eff j x hx hje).2 h') (I.kfc tr R hx hf)
        · exact h'⟩
      refine I.HR.fill hA (by rw [M.cut_get hA]; exact hnone) (by omega) (by omega) (by omega) hheap ?_
      rw [hget]
      refine hblk _ ?_
      rw [show max (Hh k).n (Hh p).n = (Hh p).n by omega]
      exact M.le_set (by rw [M.cut_get hA]; exact hnone)
    · have hA : (Hh p).n ≤ (Hh k).n := tr.monos h (by omega)
      have hcutset : (μ.set (Hh k).n bi).cut (Hh p).n = μ.cut (Hh p).n := funext fun X => by
        unfold M.cut
        split
        · exact hset X (by omega)
        · rfl
      rw [hcutset]
      exact I.HR.other (by omega) hheap
  refine { hp := I.hp, bd := I.bd, eff := ?_, cl := ?_, HR := hHR, dom := ?_, pend := ?_, early := ?_, dist := ?_, ops := ?_, len := by rw [put_size]; exact I.len, defs := by rw [put_defers]; exact I.defs, le0 := I.le0.trans hle, eq0 := ?_, os := I.os, tape := I.tape, output := I.output, size := by have := I.size; omega, keep := ?_, ro := I.ro }
  · intro j y hy hje
    rw [← I.eff j y hy hje]
    constructor
    · rintro (hs | rfl)
      · exact hs
      · rw [R.ho] at hy; cases hy; rw [hka] at hje; cases hje
    · exact .inl
  · rintro j y hy (hs | rfl) e he hb
    · exact .inl (I.cl j y hy hs e he hb)
    · rw [R.ho] at hy; cases hy; exact .inl (R.dep e he hb)
  · intro A b hA hm
    by_cases e : A = (Hh k).n
    · refine ⟨k, ?_, .inr rfl, hact, e⟩
      rcases Nat.lt_or_ge k p with h | h
      · have := tr.monos (i := k + 1) (j := p) h I.hp; omega
      · exact h
    · rw [hset A e] at hm
      obtain ⟨i, q1, q2, q3, q4⟩ := I.dom A b hA hm
      exact ⟨i, q1, .inl q2, q3, q4⟩
  · intro i hi ha hn
    have hik : i ≠ k := fun e => hn (.inr e)
    rw [hset _ (fun e => hik (tr.act_inj ha hact e))]
    exact I.pend i hi ha fun h => hn (.inl h)
  · intro i x hi hx t2 t3 hs b g hb
    by_cases hik : i = k
    · subst hik
      rw [R.ho] at hx; cases hx
      rw [hal] at hb; cases hb
      refine ⟨bi, M.set_self _ _ _, by omega, hblk _ ?_⟩
      have : (Hh p).n ≤ (Hh i).n := tr.monos hi (by omega)
      rw [show max (Hh i).n (Hh p).n = (Hh i).n by omega]
      exact M.cut_mono hle (Nat.le_refl _)
    · have hne : (Hh i).n ≠ (Hh k).n := fun e => hik (tr.act_inj ⟨x, hx, t2, t3⟩ hact e)
      obtain ⟨b', e1, e2, e3⟩ := I.early i x hi hx t2 t3 (hs.resolve_right hik) b g hb
      exact ⟨b', by rw [hset _ hne]; exact e1, by omega, e3.mono (M.cut_mono hle (Nat.le_refl _)) (hheap _ e2)⟩
  · intro i bj hi ha hs hm A b hA hmA hlive
    by_cases hik : i = k
    · subst hik
      rw [M.set_self] at hm; cases hm
      rw [hset A hA] at hmA
      have := hother A b hA hmA hlive
      omega
    · have hne : (Hh i).n ≠ (Hh k).n := fun e => hik (tr.act_inj ha hact e)
      have hs' := hs.resolve_right hik
      rw [hset _ hne] at hm
      by_cases e : A = (Hh k).n
      · subst e
        rw [M.set_self] at hmA; cases hmA
        obtain ⟨x, t1, t2, t3⟩ := ha
        obtain ⟨blk, g, t4, -⟩ := tr.alloc_step t1 t2 t3
        obtain ⟨b', e1, e2, -⟩ := I.early i x hi t1 t2 t3 hs' blk g t4
        rw [hm] at e1; cases e1
        omega
      · rw [hset A e] at hmA
        exact I.dist i bj hi ha hs' hm A b hA hmA hlive
  · refine I.ops_put tr R hT hle (Nat.le_refl _) (hval _ _ bi ?_ hbc (by rw [hbi]))
    rw [M.cut_get (by omega), M.set_self]
  · intro A hA
    have : (Hh 0).n ≤ (Hh k).n := tr.monos (Nat.zero_le _) (by omega)
    rw [hset A (by omega)]; exact I.eq0 A hA
  · intro c hc hno0
    obtain ⟨k1, k2, k3⟩ := I.keep c hc hno0
    have hcw : c < w.heap.size := Nat.lt_of_lt_of_le hc I.size
    refine ⟨(hheap c hcw).trans k1, ?_, fun i bj q1 q2 q3 hm => ?_⟩
    · rintro ⟨A, x, ho, hm, hcc⟩
      obtain ⟨hA, hmA⟩ := M.cut_some hm
      by_cases e : A = (Hh k).n
      · subst e
        rw [M.set_self] at hmA; cases hmA
        omega
      · rw [hset A e] at hmA
        exact k2 ⟨A, x, ho, by rw [M.cut_get hA]; exact hmA, hcc⟩
    · by_cases hik : i = k
      · subst hik
        rw [M.set_self] at hm; cases hm
        omega
      · rw [hset _ (fun e => hik (tr.act_inj q2 hact e))] at hm
        exact k3 i bj q1 q2 (q3.resolve_right hik) hm
theorem Inv.one (hC : Ctx.Ok P C) (hih : IhOk P ih) (tr : Trc C ih L Tt Hh fc) (I : Inv C L Tt Hh μ0 w0 a0 S a w p μ) (R : Ready L S k o) {ops : Array Oper} (hL : ops.toList = L) {F : Fence} {n : Nat} (hF : Wd F) {next : Act → World → Prop} {Q : Exit → Act → World → Prop}
    (hnext : ∀ a' w' p' μ', Inv C L Tt Hh μ0 w0 a0 (fun i => S i ∨ i = k) a' w' p' μ' → next a' w') :
    if Region.wanted o (yielded ops a.tmps) then o.wpIn F n P a w next Q else (∀ f, o.about P w a.eval = some f → F.fn f) ∧ next (a.put o.dst undef) w := by
  have hs := tr.step k o R.ho
  have hkl : k < L.length := (List.getElem?_eq_some_iff.1 R.ho).1
  rw [I.wants tr R hL]
  unfold stepE at hs
  split at hs
  · rename_i hw
    rw [if_pos hw]
    split at hs
    · rename_i v H' he
      simp only [Option.some.injEq, Prod.mk.injEq] at hs
      obtain ⟨hT, hH⟩ := hs
      subst hH
      have hrho := I.rho tr R
      cases hkd : kindOf C o.op with
      | pure =>
        unfold execE at he
        rw [hkd] at he
        simp only at he
        split at he
        · rename_i v' e
          have hst := tr.still R.ho (.inl hkd)
          simp only [Option.some.injEq, Prod.mk.injEq] at he
          obtain ⟨rfl, -⟩ := he
          obtain ⟨u, hu, hv⟩ := pure_sim hC e hrho w
          refine wpIn_value hF (pure_notDefer e) hu (hnext _ _ _ _ (I.still_done tr R (by rw [hkd]; simp) ?_ hT.symm (by rw [hst]; exact hv)))
          rintro ⟨x, h1, h2, -⟩
          rw [R.ho] at h1; cases h1; rw [hkd] at h2; cases h2
        · cases he
      | load =>
        have hst := tr.still R.ho (.inr (.inl hkd))
        have hna : ¬ Act1 C L Tt k := by
          rintro ⟨x, h1, h2, -⟩
          rw [R.ho] at h1; cases h1; rw [hkd] at h2; cases h2
        unfold execE at he
        rw [hkd] at he
        simp only at he
        split at he
        · rename_i t x hop
          split at he
          · rename_i av ea
            split at he
            · rename_i v' hl
              simp only [Option.some.injEq, Prod.mk.injEq] at he
              obtain ⟨rfl, -⟩ := he
              have hlp := tr.load k o t x R.ho hop hw av v' ea hl p I.hp I.bd fun j y hy hje => ⟨fun hf => (I.eff j y hy hje).1 (I.fck tr R hf), fun hf => by
                rcases Nat.lt_or_ge j p with h' | h'
                · exact absurd ((I.eff j y hy hje).2 h') (I.kfc tr R hy hf)
                · exact h'⟩
              have hva : VR (μ.cut (max (Hh k).n (Hh p).n)) av (a.eval x) := hrho x (by rw [hop]; simp [Op.operands]) av ea
              have hva' : VR (μ.cut (Hh p).n) av (a.eval x) := by
                unfold loadE at hlp
                split at hlp
                · rename_i ti b off hti
                  obtain ⟨bi, hb, e'⟩ := hva.ptr_inv
                  rw [e']
                  refine .ptr ?_
                  have hlt : b < (Hh p).n := by
                    split at hlp
                    · rename_i hg; exact Heap.lt_of_get (by rw [hg]; simp)
                    · cases hlp
                  rw [M.cut_get hlt]; exact (M.cut_some hb).2
                · cases hlp
              obtain ⟨u, hu, hv⟩ := loadE_sim hC I.HR hlp hva'
              refine wpIn_value hF (u := u) (w' := w) (fun c e => by rw [hop] at e; cases e) ?_ (hnext _ _ _ _ (I.still_done tr R (by rw [hkd]; simp) hna hT.symm (hv.mono (M.cut_mono (M.le.refl _) (by omega)))))
              obtain ⟨dst, op, ty, pos, after, guard⟩ := o
              simp only at hop; subst hop
              simp [execOp, hu]
            · cases he
          · cases he
        · cases he
      | alloc =>
        obtain ⟨b, f, hb, hlim, hT', hH'⟩ := tr.alloc_step R.ho hkd hw
        obtain ⟨ty, cs, carr, u, rfl, hcs, hrun, hval⟩ := alloc_sim hC hb hrho w
        refine wpIn_value hF (fun c e' => ?_) hrun (hnext _ _ _ _ (I.alloc_done tr R hkd hw hb hcs hval hT'))
        rw [e'] at hb; simp [allocE] at hb
      | look =>
        have hst := tr.still R.ho (.inr (.inr (.inl hkd)))
        have hna : ¬ Act1 C L Tt k := by
          rintro ⟨x, h1, h2, -⟩
          rw [R.ho] at h1; cases h1; rw [hkd] at h2; cases h2
        obtain ⟨hpk, hno⟩ := I.noEff2 tr R hkd
        have hHk := I.at tr hpk (by omega) hno
        have hmx : max (Hh k).n (Hh p).n = (Hh k).n := by have := tr.monos hpk (show k ≤ L.length by omega); omega
        rw [hmx] at hrho
        unfold execE at he
        rw [hkd] at he
        simp only at he
        split at he
        · rename_i t m key ok hop
          split at he
          · rename_i av bv ea eb
            split at he
            · rename_i v' H2 hl
              simp only [Option.some.injEq, Prod.mk.injEq] at he
              obtain ⟨rfl, -⟩ := he
              obtain ⟨u, hu, hv, -⟩ := lookup_sim hC hHk hl (hrho m (by rw [hop]; simp [Op.operands]) av ea) (hrho key (by rw [hop]; simp [Op.operands]) bv eb)
              refine wpIn_value hF (u := u) (w' := w) (fun c e => by rw [hop] at e; cases e) ?_ (hnext _ _ _ _ (I.still_done tr R (by rw [hkd]; simp) hna hT.symm (hv.mono (M.cut_mono (M.le.refl _) (by rw [hst]; omega)))))
              obtain ⟨dst, op, ty, pos, after, guard⟩ := o
              simp only at hop; subst hop
              simp [execOp, hu]
            · cases he
          · cases he
        · cases he
      | eff =>
        obtain ⟨hpk, hno⟩ := I.noEff tr R hkd
        have hHk := I.at tr hpk (by omega) hno
        have hmx : max (Hh k).n (Hh p).n = (Hh k).n := by have := tr.monos hpk (show k ≤ L.length by omega); omega
        rw [hmx] at hrho
        have he' : effE C ih (opd (Tt k)) o.op (Hh k) = some (v, Hh (k + 1)) := by
          unfold execE at he
          rw [hkd] at he
          exact he
        refine eff_sim hC hih he' hrho hHk hF fun u w' ⟨μ1, h1, h2, h3⟩ => ?_
        exact hnext _ _ _ _ (I.eff_done tr R hkd h2 h3 hT.symm h1)
    · cases hs
  · rename_i hw
    have hw' : Region.wanted o (ayielded L (Tt k)) = false := by simpa using hw
    rw [if_neg hw]
    simp only [Option.some.injEq, Prod.mk.injEq] at hs
    obtain ⟨hT, hH⟩ := hs
    refine ⟨fun f _ => hF.1 f, ?_⟩
    by_cases hkd : kindOf C o.op = .eff
    · obtain ⟨hpk, hno⟩ := I.noEff tr R hkd
      have hHk := I.at tr hpk (by omega) hno
      refine hnext _ _ _ _ (I.eff_done tr R hkd (μ1 := μ.cut (Hh k).n) (w' := w) (by rw [← hH]; exact hHk) (by rw [← hH]; exact Fr.refl _ _ _) hT.symm undefR)
    · refine hnext _ _ _ _ (I.still_done tr R hkd ?_ hT.symm undefR)
      rintro ⟨x, h1, h2, h3⟩
      rw [R.ho] at h1; cases h1; rw [hw'] at h3; cases h3
end
end Go.PI
namespace Go.PI
variable {P : Program} {C : Ctx}
section
variable {ih : Ih} {L : List Oper} {Tt : Nat → List AV} {Hh : Nat → Heap} {fc : Nat → Nat → Prop}
variable {μ0 : M} {w0 : World} {a0 : Act} {a : Act} {w : World} {p : Nat} {μ : M}
theorem Inv.start (tr : Trc C ih L Tt Hh fc) (hT : VRs μ0 (Tt 0) a0.tmps.toList) (hH : PI.HR μ0 (Hh 0) w0) : Inv C L Tt Hh μ0 w0 a0 (fun _ => False) a0 w0 0 μ0 := by
  have hcut : μ0.cut (Hh 0).n = μ0 := funext fun A => by
    unfold M.cut; split
    · rfl
    · exact (hH.dom A (by omega)).symm
  have hcut' : ∀ m, (Hh 0).n ≤ m → μ0.cut m = μ0 := fun m h => funext fun A => by
    unfold M.cut; split
    · rfl
    · exact (hH.dom A (by omega)).symm
  refine { hp := Nat.zero_le _, bd := .inl rfl, eff := fun j y _ _ => by simp, cl := fun _ _ _ h => h.elim, HR := by rw [hcut]; exact hH, dom := fun A b h1 h2 => (by rw [hH.dom A h1] at h2; cases h2), pend := fun i h => by omega, early := fun _ _ _ _ _ _ h => h.elim, dist := fun _ _ _ _ h => h.elim, ops := ?_, len := by rw [hT.length]; simp, defs := rfl, le0 := M.le.refl _, eq0 := fun _ _ => rfl, os := rfl, tape := rfl, output := rfl, size := Nat.le_refl _, keep := fun k h1 h2 => ⟨rfl, by rw [hcut]; exact h2, fun _ _ _ _ h => h.elim⟩, ro := fun A h1 _ => ⟨Heap.lt_of_get (fun e => by rw [e] at h1; cases h1), rfl⟩ }
  intro j hj t hc v hv
  have hfr := tr.frames_T (Nat.zero_le j) hj (t := t) fun k o _ h2 hx hd => ((hc k o hx hd).1 h2).elim
  rw [hfr] at hv
  obtain ⟨u, h1, h2⟩ := hT.get hv
  refine ⟨u, by simpa using h1, ?_⟩
  rw [hcut' _ (by omega)]; exact h2
theorem Inv.finish (tr : Trc C ih L Tt Hh fc) {S : Nat → Prop} (I : Inv C L Tt Hh μ0 w0 a0 S a w p μ) (hH0 : PI.HR μ0 (Hh 0) w0) (hall : ∀ i, i < L.length → S i) :
    VRs (μ.cut (Hh L.length).n) (Tt L.length) a.tmps.toList ∧ PI.HR (μ.cut (Hh L.length).n) (Hh L.length) w ∧ Fr μ0 (Hh 0) w0 (μ.cut (Hh L.length).n) (Hh L.length) w := by
  have hno : ∀ i o, p ≤ i → i < L.length → L[i]? = some o → kindOf C o.op ≠ .eff := fun i o h1 h2 hx he => by
    have := (I.eff i o hx he).1 (hall i h2)
    omega
  have hHN := I.at tr I.hp (Nat.le_refl _) hno
  obtain ⟨q1, q2, q3⟩ := tr.quiet I.hp (Nat.le_refl _) hno
  have hm0 := tr.monos (Nat.zero_le L.length) (Nat.le_refl _)
  have hmp := tr.monos I.hp (Nat.le_refl _)
  have hown : ∀ A, (Hh p).n ≤ A → A < (Hh L.length).n → ((Hh L.length).get A).own = true := fun A h1 h2 => by
    obtain ⟨i, r1, r2, ⟨x, t1, t2, t3⟩, r4⟩ := q2 A h1 h2
    obtain ⟨b, f, t4, -⟩ := tr.alloc_step t1 t2 t3
    obtain ⟨ty, cs, hb⟩ := allocE_cells t4
    rw [r4, q3 i x r1 r2 t1 t2 t3 b f t4, hb]; rfl
  refine ⟨?_, hHN, ⟨fun A b e => ?_, fun A hA => ?_, hm0, I.os, I.tape, I.output, I.size, fun c hc hno0 => ?_, fun A hl ho => ?_⟩⟩
  · refine All2.of_get (by rw [tr.len_T _ (Nat.le_refl _), ← I.len]; simp) fun t v u hv hu => ?_
    obtain ⟨u', h1, h2⟩ := I.ops L.length (Nat.le_refl _) t (fun i o hx _ => ⟨fun h => hall i h, fun h => by
      have := (List.getElem?_eq_some_iff.1 hx).1; omega⟩) v hv
    have : u' = u := by
      have hu' : a.tmps[t]? = some u := by simpa using hu
      rw [h1] at hu'; cases hu'; rfl
    subst this
    rw [show max (Hh L.length).n (Hh p).n = (Hh L.length).n by omega] at h2
    exact h2
  · have hA : A < (Hh 0).n := by
      rcases Nat.lt_or_ge A (Hh 0).n with h | h
      · exact h
      · rw [hH0.dom A h] at e; cases e
    rw [M.cut_get (by omega)]; exact I.le0 A b e
  · rw [M.cut_get (by omega)]; exact I.eq0 A hA
  · obtain ⟨k1, k2, k3⟩ := I.keep c hc hno0
    refine ⟨k1, ?_⟩
    rintro ⟨A, x, ho, hm, hcc⟩
    obtain ⟨hA, hmA⟩ := M.cut_some hm
    rcases Nat.lt_or_ge A (Hh p).n with h | h
    · exact k2 ⟨A, x, by rw [← q1 A h]; exact ho, by rw [M.cut_get h]; exact hmA, hcc⟩
    · obtain ⟨i, s1, s2, s3, s4⟩ := I.dom A x h hmA
      exact k3 i x s1 s3 s2 (s4 ▸ hmA) hcc
  · rcases Nat.lt_or_ge A (Hh p).n with h | h
    · rw [q1 A h] at hl ho ⊢; exact I.ro A hl ho
    · have hA : A < (Hh L.length).n := Heap.lt_of_get (fun e => by rw [e] at hl; cases hl)
      rw [hown A h hA] at ho; cases ho
def rem (f : Nat → Bool) : Nat → Nat
  | 0 => 0
  | n + 1 => rem f n + if f n then 0 else 1
theorem rem_same (f g : Nat → Bool) : ∀ n, (∀ i, i < n → f i = g i) → rem f n = rem g n
  | 0, _ => rfl
  | n + 1, h => by simp only [rem, rem_same f g n fun i hi => h i (by omega), h n (by omega)]
theorem rem_set (f g : Nat → Bool) (k : Nat) (hf : f k = false) (hg : g k = true) (he : ∀ i, i ≠ k → g i = f i) : ∀ n, k < n → rem f n = rem g n + 1
  | 0, h => by omega
  | n + 1, h => by
    simp only [rem]
    by_cases e : n = k
    · subst e
      rw [rem_same g f n fun i hi => he i (by omega), hf, hg]; simp
    · rw [rem_set f g k hf hg he n (by omega), he n e]; omega
theorem rem_zero (f : Nat → Bool) : ∀ n, rem f n = 0 → ∀ i, i < n → f i = true
  | 0, _, i, hi => by omega
  | n + 1, h, i, hi => by
    simp only [rem] at h
    by_cases e : i = n
    · subst e
      cases hf : f i with
      | true => rfl
      | false => rw [hf] at h; simp at h
    · exact rem_zero f n (by omega) i (by omega)
theorem draw_sim (hC : Ctx.Ok P C) (hih : IhOk P ih) {ops : Array Oper} (tr : Trc C ih ops.toList Tt Hh fc) (hH0 : PI.HR μ0 (Hh 0) w0) {F : Fence} {n : Nat} (hF : Wd F) {Q : Exit → Act → World → Prop}
    (hq : ∀ μ' a' w', VRs μ' (Tt ops.size) a'.tmps.toList → a'.defers = a0.defers → PI.HR μ' (Hh ops.size) w' → Fr μ0 (Hh 0) w0 μ' (Hh ops.size) w' → Q .normal a' w') :
    ∀ (fuel t : Nat) (listed : Array Bool) (a : Act) (w : World) (p : Nat) (μ : M), listed.size = ops.size → rem (fun i => listed.getD i false) ops.size ≤ fuel → Inv C ops.toList Tt Hh μ0 w0 a0 (fun i => listed.getD i false = true) a w p μ →
      wpOpsIn F n P ops Q (Region.linearise.go .any ops fuel t listed []) a w := by
  have hlen : ops.toList.length = ops.size := by simp
  have hget : ∀ i : Nat, ops.toList[i]? = ops[i]? := fun i => Array.getElem?_toList
  have fin : ∀ (listed : Array Bool) (a : Act) (w : World) (p : Nat) (μ : M), (∀ i, i < ops.size → listed.getD i false = true) → Inv C ops.toList Tt Hh μ0 w0 a0 (fun i => listed.getD i false = true) a w p μ → Q .normal a w := fun listed a w p μ hall I => by
    obtain ⟨h1, h2, h3⟩ := I.finish tr hH0 (by rw [hlen]; exact hall)
    rw [hlen] at h1 h2 h3
    exact hq _ a w h1 I.defs h2 h3
  intro fuel
  induction fuel with
  | zero =>
    intro t listed a w p μ hs hr I
    simp only [Region.linearise.go, List.reverse_nil, wpOpsIn]
    exact fin listed a w p μ (rem_zero _ _ (by omega)) I
  | succ fuel ihf =>
    intro t listed a w p μ hs hr I
    simp only [Region.linearise.go]
    change wpOpsIn F n P ops Q (match (Region.ready .any ops listed)[t % (Region.ready .any ops listed).length]? with
      | some i => Region.linearise.go .any ops fuel (t / (Region.ready .any ops listed).length) (listed.setIfInBounds i true) [i]
      | none => [].reverse) a w
    cases hi : (Region.ready .any ops listed)[t % (Region.ready .any ops listed).length]? with
    | none =>
      have hnil : Region.ready .any ops listed = [] := by
        cases hr : Region.ready .any ops listed with
        | nil => rfl
        | cons x xs =>
          rw [hr] at hi
          have hlt : t % (x :: xs).length < (x :: xs).length := Nat.mod_lt _ (by simp)
          rw [List.getElem?_eq_getElem hlt] at hi; cases hi
      simp only [List.reverse_nil, wpOpsIn]
      refine fin listed a w p μ ?_ I
      intro i
      induction i using Nat.strongRecOn with
      | _ i ihi =>
        intro hi
        cases hl : listed.getD i false with
        | true => rfl
        | false =>
          have hm : i ∈ Region.ready .any ops listed := by
            rw [mem_ready]
            refine ⟨by rw [Array.getD_eq_getD_getElem?, Array.getElem?_eq_getElem (by omega)] at hl ⊢; exact hl, ops[i], Array.getElem?_eq_getElem hi, fun e he hb => ?_⟩
            have hlt := tr.back i ops[i] (by rw [hget]; exact Array.getElem?_eq_getElem hi) e he hb
            exact ihi e.on hlt (by omega)
          rw [hnil] at hm; cases hm
    | some k =>
      simp only []
      rw [linearise_go_acc, List.reverse_singleton, List.singleton_append]
      obtain ⟨h1, o, ho, h3⟩ := mem_ready.1 (List.mem_of_getElem? hi)
      have hk : k < ops.size := (Array.getElem?_eq_some_iff.1 ho).1
      have hkf : listed.getD k false = false := by rw [Array.getD_eq_getD_getElem?, Array.getElem?_eq_getElem (by omega)] at h1 ⊢; exact h1
      have R : Ready ops.toList (fun i => listed.getD i false = true) k o := ⟨by rw [hget]; exact ho, by rw [hkf]; simp, h3⟩
      have hset : ∀ i, (listed.setIfInBounds k true).getD i false = true ↔ (listed.getD i false = true ∨ i = k) := fun i => by
        by_cases e : i = k
        · subst e
          simp [Array.getD_eq_getD_getElem?, Array.getElem?_setIfInBounds_self_of_lt (show i < listed.size by omega)]
        · rw [getD_set_ne false (Ne.symm e)]; simp [e]
      simp only [wpOpsIn, ho]
      refine I.one hC hih tr R rfl hF fun a' w' p' μ' I' => ihf _ _ a' w' p' μ' (by simp [hs]) ?_ ?_
      · have := rem_set (fun i => listed.getD i false) (fun i => (listed.setIfInBounds k true).getD i false) k hkf ((hset k).2 (.inr rfl)) (fun i hi => getD_set_ne false (Ne.symm hi)) ops.size hk
        omega
      · have : (fun i => (listed.setIfInBounds k true).getD i false = true) = fun i => (listed.getD i false = true ∨ i = k) := funext fun i => propext (hset i)
        rw [this]; exact I'
end
end Go.PI
namespace Go.PI
variable {P : Program} {C : Ctx}
theorem trace_get {ih : Ih} {ops : List Oper} : ∀ (rest : List Oper) (T : List AV) (H : Heap) (tr : List (List AV × Heap)), traceE C ih ops rest T H = some tr →
    tr.length = rest.length + 1 ∧ tr[0]? = some (T, H) ∧ ∀ (i : Nat) (o : Oper), rest[i]? = some o → ∃ x y, tr[i]? = some x ∧ tr[i + 1]? = some y ∧ stepE C ih ops o x.1 x.2 = some y
  | [], T, H, tr, h => by simp [traceE] at h; subst h; simp
  | o :: rest, T, H, tr, h => by
    unfold traceE at h
    split at h
    · rename_i T' H' hs
      split at h
      · rename_i tr' ht
        cases h
        obtain ⟨h1, h2, h3⟩ := trace_get rest T' H' tr' ht
        refine ⟨by simp [h1], by simp, fun i x hx => ?_⟩
        cases i with
        | zero =>
          simp at hx; subst hx
          exact ⟨(T, H), (T', H'), by simp, by simpa using h2, hs⟩
        | succ i =>
          simp at hx
          obtain ⟨y, z, g1, g2, g3⟩ := h3 i x hx
          exact ⟨y, z, by simpa using g1, by simpa using g2, g3⟩
      · cases h
    · cases h
theorem lastOf_get : ∀ (tr : List (List AV × Heap)) (x : List AV × Heap), lastOf tr = some x → tr[tr.length - 1]? = some x
  | [], x, h => by cases h
  | [y], x, h => by simp [lastOf] at h; simp [h]
  | y :: z :: r, x, h => by
    simp only [lastOf] at h
    have := lastOf_get (z :: r) x h
    simpa using this
theorem shl_bit {n i : Nat} (h : (1 <<< n).testBit i = true) : i = n := by
  rw [Nat.testBit_shiftLeft] at h
  simp only [Bool.and_eq_true, decide_eq_true_eq, ge_iff_le] at h
  obtain ⟨h1, h2⟩ := h
  have : i - n = 0 := by
    cases e : i - n with
    | zero => rfl
    | succ k => rw [e, Nat.testBit_succ] at h2; simp at h2
  omega
theorem preMask_bit {acc : List Nat} {i : Nat} : ∀ {es : List Edge}, (preMask acc es).testBit i = true → ∃ e ∈ es, Region.binds .any e = true ∧ (i = e.on ∨ (acc.getD e.on 0).testBit i = true)
  | [], h => by simp [preMask] at h
  | e :: es, h => by
    unfold preMask at h
    split at h
    · rename_i hb
      rw [Nat.testBit_or, Nat.testBit_or, Bool.or_eq_true, Bool.or_eq_true] at h
      rcases h with (h | h) | h
      · obtain ⟨e', h1, h2⟩ := preMask_bit h
        exact ⟨e', List.mem_cons_of_mem _ h1, h2⟩
      · exact ⟨e, List.mem_cons_self .., hb, .inl (shl_bit h)⟩
      · exact ⟨e, List.mem_cons_self .., hb, .inr h⟩
    · obtain ⟨e', h1, h2⟩ := preMask_bit h
      exact ⟨e', List.mem_cons_of_mem _ h1, h2⟩
theorem preList_get : ∀ (os : List Oper) (acc : List Nat), (preList os acc).take acc.length = acc ∧ (preList os acc).length = acc.length + os.length ∧
    ∀ (k : Nat) (o : Oper), os[k]? = some o → (preList os acc)[acc.length + k]? = some (preMask ((preList os acc).take (acc.length + k)) o.after.toList)
  | [], acc => ⟨by simp [preList], by simp [preList], fun k o h => by simp at h⟩
  | o :: os, acc => by
    obtain ⟨h1, h2, h3⟩ := preList_get os (acc ++ [preMask acc o.after.toList])
    simp only [preList]
    have h0 : (preList os (acc ++ [preMask acc o.after.toList])).take acc.length = acc := by
      have := congrArg (List.take acc.length) h1
      rw [List.take_take] at this
      simpa using this
    refine ⟨h0, by rw [h2]; simp; omega, fun k x hx => ?_⟩
    cases k with
    | zero =>
      simp at hx; subst hx
      rw [Nat.add_zero, h0]
      have := congrArg (fun l : List Nat => l[acc.length]?) h1
      have hlt : acc.length < (acc ++ [preMask acc o.after.toList]).length := by simp
      simp only [List.getElem?_take] at this
      rw [if_pos hlt] at this
      rw [this]; simp
    | succ k =>
      simp at hx
      have := h3 k x hx
      simp only [List.length_append, List.length_singleton] at this
      rw [show acc.length + (k + 1) = acc.length + 1 + k by omega]
      exact this
theorem allBefore_get {ops : List Oper} {y : Oper} {m : Nat} : ∀ (xs : List Oper) (i : Nat), allBefore C ops y m xs i = true → ∀ (k : Nat) (x : Oper), xs[k]? = some x → clash C ops x y = true → m.testBit (i + k) = true
  | [], i, _, k, x, hx, _ => by simp at hx
  | z :: xs, i, h, k, x, hx, hc => by
    simp only [allBefore, Bool.and_eq_true, Bool.or_eq_true, Bool.not_eq_true'] at h
    cases k with
    | zero =>
      simp at hx; subst hx
      rcases h.1 with h1 | h1
      · rw [hc] at h1; cases h1
      · simpa using h1
    | succ k =>
      simp at hx
      have := allBefore_get xs (i + 1) h.2 k x hx hc
      rw [show i + (k + 1) = i + 1 + k by omega]; exact this
theorem orderOk_get {ops : List Oper} {pre : List Nat} : ∀ (ys : List Oper) (j : Nat), orderOk C ops pre ys j = true → ∀ (k : Nat) (y : Oper), ys[k]? = some y →
    (∀ (i : Nat) (x : Oper), i < j + k → ops[i]? = some x → clash C ops x y = true → (pre.getD (j + k) 0).testBit i = true) ∧ ∀ e ∈ y.after, Region.binds .any e = true → e.on < j + k
  | [], j, _, k, y, hy => by simp at hy
  | z :: ys, j, h, k, y, hy => by
    simp only [orderOk, Bool.and_eq_true] at h
    obtain ⟨⟨h1, h2⟩, h3⟩ := h
    cases k with
    | zero =>
      simp at hy; subst hy
      refine ⟨fun i x hi hx hc => ?_, fun e he hb => ?_⟩
      · have := allBefore_get (ops.take j) 0 h1 i x (by rw [List.getElem?_take, if_pos (by omega)]; exact hx) hc
        simpa using this
      · have := List.all_eq_true.1 h2 e (by simpa using he)
        rw [hb] at this
        simpa using this
    | succ k =>
      simp at hy
      have := orderOk_get ys (j + 1) h3 k y hy
      rw [show j + (k + 1) = j + 1 + k by omega]; exact this
theorem mayAt_of {ops : List Oper} {pre : List Nat} {i p : Nat} : ∀ (xs : List Oper) (j : Nat), (∀ (k : Nat) (x : Oper), xs[k]? = some x → kindOf C x.op = .eff → ((pre.getD i 0).testBit (j + k) = true → j + k < p) ∧ ((pre.getD (j + k) 0).testBit i = true → p ≤ j + k)) → mayAt C ops pre i p xs j = true
  | [], j, _ => rfl
  | x :: xs, j, h => by
    simp only [mayAt, Bool.and_eq_true]
    refine ⟨?_, mayAt_of xs (j + 1) fun k y hy hk => ?_⟩
    · by_cases hk : kindOf C x.op = .eff
      · obtain ⟨h1, h2⟩ := h 0 x rfl hk
        simp only [Nat.add_zero] at h1 h2
        simp only [Bool.or_eq_true, Bool.not_eq_true', Bool.and_eq_true, decide_eq_true_eq]
        right
        refine ⟨?_, ?_⟩
        · cases hb : (pre.getD i 0).testBit j with
          | true => exact .inr (h1 hb)
          | false => exact .inl rfl
        · cases hb : (pre.getD j 0).testBit i with
          | true => exact .inr (h2 hb)
          | false => exact .inl rfl
      · simp [hk]
    · have := h (k + 1) y (by simpa using hy) hk
      rw [show j + (k + 1) = j + 1 + k by omega] at this; exact this
theorem isBd_of {ops : List Oper} {p : Nat} (h : p = 0 ∨ ∃ o', ops[p - 1]? = some o' ∧ kindOf C o'.op = .eff) : isBd C ops p = true := by
  unfold isBd
  rcases h with rfl | ⟨o, h1, h2⟩
  · simp
  · rw [h1]; simp [h2]
theorem sames_eq {a b : AV} (h : a.sames b = true) : a = b := by
  cases a <;> cases b <;> simp only [AV.sames, Bool.and_eq_true, beq_iff_eq, Bool.false_eq_true] at h <;> first
    | rfl
    | (obtain ⟨rfl, rfl⟩ := h; rfl)
    | (obtain ⟨⟨⟨rfl, rfl⟩, rfl⟩, rfl⟩ := h; rfl)
    | (subst h; rfl)
    | skip
  rename_i s t
  obtain ⟨s⟩ := s
  obtain ⟨t⟩ := t
  simp only at h
  have : s = t := Array.toList_inj.1 h
  rw [this]
theorem sameLs_eq : ∀ {as bs : List AV}, sameLs as bs = true → as = bs
  | [], [], _ => rfl
  | [], _ :: _, h => by simp [sameLs] at h
  | _ :: _, [], h => by simp [sameLs] at h
  | a :: as, b :: bs, h => by
    simp only [sameLs, Bool.and_eq_true] at h
    rw [sames_eq h.1, sameLs_eq h.2]
theorem same_eq {a b : AV} (h : a.same b = true) : a = b := by
  unfold AV.same at h
  split at h
  · rw [sameLs_eq h]
  · rw [sameLs_eq h]
  · simp only [Bool.and_eq_true, beq_iff_eq] at h
    obtain ⟨⟨rfl, h1⟩, h2⟩ := h
    rw [sameLs_eq h1, sameLs_eq h2]
  · exact sames_eq h
theorem loadAts_get {ops : List Oper} {pre : List Nat} {i : Nat} {t : TypeId} {a v : AV} : ∀ (tr : List (List AV × Heap)) (p : Nat), loadAts C ops pre i t a v tr p = true → ∀ (q : Nat) x, tr[q]? = some x → isBd C ops (p + q) = true → mayAt C ops pre i (p + q) ops 0 = true → loadE C t a x.2 = some v
  | [], p, _, q, x, hx, _, _ => by simp at hx
  | (T, H) :: tr, p, h, q, x, hx, hb, hm => by
    simp only [loadAts, Bool.and_eq_true, Bool.or_eq_true, Bool.not_eq_true'] at h
    cases q with
    | zero =>
      simp at hx; subst hx
      simp only [Nat.add_zero] at hb hm
      rcases h.1 with h1 | h1
      · rw [hb, hm] at h1; cases h1
      · split at h1
        · rename_i v' hv
          rw [same_eq h1]; exact hv
        · cases h1
    | succ q =>
      simp at hx
      refine loadAts_get tr (p + 1) h.2 q x hx ?_ ?_
      · rw [show p + 1 + q = p + (q + 1) by omega]; exact hb
      · rw [show p + 1 + q = p + (q + 1) by omega]; exact hm
theorem allocAts_get {ops : List Oper} {pre : List Nat} {i A : Nat} {ty : TypeId} {cs : List AV} : ∀ (tr : List (List AV × Heap)) (p : Nat), allocAts C ops pre i A ty cs tr p = true → ∀ (q : Nat) x, tr[q]? = some x → isBd C ops (p + q) = true → i < p + q → mayAt C ops pre i (p + q) ops 0 = true → x.2.get A = .cells true ty cs
  | [], p, _, q, x, hx, _, _, _ => by simp at hx
  | (T, H) :: tr, p, h, q, x, hx, hb, hi, hm => by
    simp only [allocAts, Bool.and_eq_true, Bool.or_eq_true, Bool.not_eq_true'] at h
    cases q with
    | zero =>
      simp at hx; subst hx
      simp only [Nat.add_zero] at hb hm hi
      rcases h.1 with h1 | h1
      · rw [hb, hm] at h1; simp [hi] at h1
      · split at h1
        · rename_i ty' cs' hg
          simp only [Bool.and_eq_true, beq_iff_eq] at h1
          obtain ⟨rfl, h2⟩ := h1
          rw [sameLs_eq h2]; exact hg
        · cases h1
    | succ q =>
      simp at hx
      refine allocAts_get tr (p + 1) h.2 q x hx ?_ (by omega) ?_
      · rw [show p + 1 + q = p + (q + 1) by omega]; exact hb
      · rw [show p + 1 + q = p + (q + 1) by omega]; exact hm
theorem loadsOk_get {ops : List Oper} {pre : List Nat} {all : List (List AV × Heap)} : ∀ (os : List Oper) (tr : List (List AV × Heap)) (i : Nat), loadsOk C ops pre all os tr i = true → ∀ (k : Nat) (o : Oper) x, os[k]? = some o → tr[k]? = some x → ∀ t y, o.op = .load t y → Region.wanted o (ayielded ops x.1) = true →
    ∀ a v, opd x.1 y = some a → loadE C t a x.2 = some v → loadAts C ops pre (i + k) t a v all 0 = true
  | [], _, _, _, k, o, x, ho, _ => by simp at ho
  | _ :: _, [], _, _, k, o, x, _, hx => by simp at hx
  | z :: os, (T, H) :: tr, i, h, k, o, x, ho, hx => by
    intro t y hop hw a v ha hl
    simp only [loadsOk, Bool.and_eq_true] at h
    cases k with
    | zero =>
      simp at ho hx; subst ho; subst hx
      have h1 := h.1
      rw [hop] at h1
      simp only at h1 hw ha hl
      rw [if_pos hw, ha] at h1
      simp only [hl] at h1
      exact h1
    | succ k =>
      simp at ho hx
      have := loadsOk_get os tr (i + 1) h.2 k o x ho hx t y hop hw a v ha hl
      rw [show i + (k + 1) = i + 1 + k by omega]; exact this
theorem allocsOk_get {ops : List Oper} {pre : List Nat} {all : List (List AV × Heap)} : ∀ (os : List Oper) (tr : List (List AV × Heap)) (i : Nat), allocsOk C ops pre all os tr i = true → ∀ (k : Nat) (o : Oper) x, os[k]? = some o → tr[k]? = some x → kindOf C o.op = .alloc → Region.wanted o (ayielded ops x.1) = true →
    ∀ ty cs f, allocE C (opd x.1) o.op = some (.cells true ty cs, f) → allocAts C ops pre (i + k) x.2.n ty cs all 0 = true
  | [], _, _, _, k, o, x, ho, _ => by simp at ho
  | _ :: _, [], _, _, k, o, x, _, hx => by simp at hx
  | z :: os, (T, H) :: tr, i, h, k, o, x, ho, hx => by
    intro hop hw ty cs f ha
    simp only [allocsOk, Bool.and_eq_true] at h
    cases k with
    | zero =>
      simp at ho hx; subst ho; subst hx
      have h1 := h.1
      rw [hop] at h1
      simp only at h1 hw ha
      rw [if_pos hw, ha] at h1
      exact h1
    | succ k =>
      simp at ho hx
      have := allocsOk_get os tr (i + 1) h.2 k o x ho hx hop hw ty cs f ha
      rw [show i + (k + 1) = i + 1 + k by omega]; exact this
theorem monoOk_get : ∀ (tr : List (List AV × Heap)), monoOk tr = true → ∀ (i : Nat) x y, tr[i]? = some x → tr[i + 1]? = some y → x.2.n ≤ y.2.n
  | [], _, i, x, y, hx, _ => by simp at hx
  | [z], _, i, x, y, hx, hy => by simp at hy
  | z :: z' :: r, h, i, x, y, hx, hy => by
    simp only [monoOk, Bool.and_eq_true, decide_eq_true_eq] at h
    cases i with
    | zero =>
      simp at hx hy; subst hx; subst hy; exact h.1
    | succ i => exact monoOk_get (z' :: r) h.2 i x y (by simpa using hx) (by simpa using hy)
theorem draw_ok (hC : Ctx.Ok P C) (ih : Ih) (hih : IhOk P ih) : DrawSim P C ih := by
  intro ops tr T T' H H' htr hok hlast F n hF Q μ a w hT hH hq t
  obtain ⟨l1, l2, l3⟩ := trace_get ops.toList T H tr htr
  have hN : ops.toList.length = ops.size := by simp
  unfold drawOk at hok
  simp only [Bool.and_eq_true] at hok
  obtain ⟨⟨⟨o1, o2⟩, o3⟩, o4⟩ := hok
  obtain ⟨pre, hpre⟩ : ∃ pre, preList ops.toList [] = pre := ⟨_, rfl⟩
  rw [hpre] at o1 o2 o3
  obtain ⟨p1, p2, p3⟩ := preList_get ops.toList []
  rw [hpre] at p1 p2 p3
  simp only [List.length_nil, Nat.zero_add] at p2 p3
  obtain ⟨Tt, hTt⟩ : ∃ Tt : Nat → List AV, Tt = fun i => (tr.getD i (T, H)).1 := ⟨_, rfl⟩
  obtain ⟨Hh, hHh⟩ : ∃ Hh : Nat → Heap, Hh = fun i => (tr.getD i (T, H)).2 := ⟨_, rfl⟩
  have hx : ∀ (i : Nat) x, tr[i]? = some x → Tt i = x.1 ∧ Hh i = x.2 := fun i x e => by
    rw [hTt, hHh]; simp [List.getD, e]
  have hex : ∀ i, i ≤ ops.toList.length → tr[i]? = some (Tt i, Hh i) := fun i hi => by
    have : i < tr.length := by omega
    have e := List.getElem?_eq_getElem this
    obtain ⟨e1, e2⟩ := hx i _ e
    rw [e, e1, e2]
  have hmay : ∀ (i p : Nat), (∀ (j : Nat) (x : Oper), ops.toList[j]? = some x → kindOf C x.op = .eff → (((pre.getD i 0).testBit j = true) → j < p) ∧ (((pre.getD j 0).testBit i = true) → p ≤ j)) → mayAt C ops.toList pre i p ops.toList 0 = true := fun i p h =>
    mayAt_of ops.toList 0 fun k x hk he => by simpa using h k x hk he
  have trc : Trc C ih ops.toList Tt Hh (fun i j => (pre.getD j 0).testBit i = true) := by
    refine ⟨fun i o ho => ?_, fun i hi => ?_, fun j y hy => ?_, fun j y hy i hf => ?_, fun i j x y hij hx' hy hc => ?_, ?_, ?_⟩
    · obtain ⟨x, y, g1, g2, g3⟩ := l3 i o ho
      obtain ⟨e1, e2⟩ := hx _ _ g1
      obtain ⟨e3, e4⟩ := hx _ _ g2
      rw [e1, e2, e3, e4]; exact g3
    · exact monoOk_get tr o4 i _ _ (hex i (by omega)) (hex (i + 1) (by omega))
    · have := (orderOk_get ops.toList 0 o1 j y hy).2
      simpa using this
    · have hb := (orderOk_get ops.toList 0 o1 j y hy).2
      have hp := p3 j y hy
      have hg : pre.getD j 0 = preMask (pre.take j) y.after.toList := by simp [List.getD, hp]
      rw [hg] at hf
      obtain ⟨e, h1, h2, h3⟩ := preMask_bit hf
      have h1' : e ∈ y.after := by simpa using h1
      refine ⟨e, h1', h2, ?_⟩
      rcases h3 with h3 | h3
      · exact .inl h3
      · right
        have hlt := hb e h1' h2
        rw [Nat.zero_add] at hlt
        have : (pre.take j).getD e.on 0 = pre.getD e.on 0 := by simp [List.getD, List.getElem?_take, hlt]
        rw [this] at h3; exact h3
    · have := (orderOk_get ops.toList 0 o1 j y hy).1 i x (by omega) hx' hc
      simpa using this
    · intro i o t x ho hop hw a v ha hl p hp hbd hm
      have hi := (List.getElem?_eq_some_iff.1 ho).1
      have hat := loadsOk_get ops.toList tr 0 o2 i o _ ho (hex i (by omega)) t x hop hw a v ha hl
      rw [Nat.zero_add] at hat
      exact loadAts_get tr 0 hat p _ (hex p hp) (by rw [Nat.zero_add]; exact isBd_of hbd) (by rw [Nat.zero_add]; exact hmay i p hm)
    · intro i o ho hk hw ty cs f ha p hp hip hbd hm
      have hi := (List.getElem?_eq_some_iff.1 ho).1
      have hat := allocsOk_get ops.toList tr 0 o3 i o _ ho (hex i (by omega)) hk hw ty cs f ha
      rw [Nat.zero_add] at hat
      exact allocAts_get tr 0 hat p _ (hex p hp) (by rw [Nat.zero_add]; exact isBd_of hbd) (by omega) (by rw [Nat.zero_add]; exact hmay i p hm)
  have e0 := hx 0 _ l2
  have eN : Tt ops.size = T' ∧ Hh ops.size = H' := by
    have := lastOf_get tr _ hlast
    rw [l1, hN, Nat.add_sub_cancel] at this
    exact hx _ _ this
  have hT0 : VRs μ (Tt 0) a.tmps.toList := by rw [e0.1]; exact hT
  have hH0 : HR μ (Hh 0) w := by rw [e0.2]; exact hH
  have I0 := Inv.start trc hT0 hH0
  unfold Region.linearise
  refine draw_sim (a0 := a) (w0 := w) (μ0 := μ) hC hih trc hH0 hF ?_ ops.size t (Array.replicate ops.size false) a w 0 μ (by simp) ?_ ?_
  · rw [eN.1, eN.2, e0.2]; exact hq
  · have : ∀ (f : Nat → Bool) n, rem f n ≤ n := fun f n => by
      induction n with
      | zero => exact Nat.le_refl _
      | succ n ihn => simp only [rem]; split <;> omega
    exact this _ _
  · have : (fun i => (Array.replicate ops.size false).getD i false = true) = fun _ => False := funext fun i => by
      simp only [eq_iff_iff, iff_false, Array.getD_eq_getD_getElem?, Array.getElem?_replicate]
      split <;> simp
    rw [this]; exact I0
theorem sound (hC : Ctx.Ok P C) (n : Nat) : IhOk P (ev C n) := ev_ok hC (draw_ok hC) n
end Go.PI
