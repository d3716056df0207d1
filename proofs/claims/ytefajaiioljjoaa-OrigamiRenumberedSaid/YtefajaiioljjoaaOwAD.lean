/- Own work of the verifier: PiPure4 PiMem PiHeap. -/
import Derived.Test.YtefajaiioljjoaaOwAC
import Derived.IntWalk
set_option linter.all false
set_option exponentiation.threshold 3000
set_option linter.deprecated false
namespace Go.PI
variable {P : Program} {C : Ctx} {μ : M}
theorem places_sim' (hC : Ctx.Ok P C) {fs : Array Field} {pl : List (Nat × Nat)} (h : placesE C fs.toList = some pl) (w : World) : (fs.mapM fun f => do pure (f.offset, ← sizeOf f.type) : Sem (Array (Nat × Nat))).run P w = .ok pl.toArray w := by
  rw [Array.mapM_eq_mapM_toList]
  simp only [Sem.run_map, places_sim hC h w, Result.andThen_ok]
set_option maxHeartbeats 400000 in
theorem pure_sim (hC : Ctx.Ok P C) {ρ : Operand → Option AV} {ρ' : Operand → Value} {o : Oper} {v : AV} (h : pureE C ρ o.op = some v) (hr : RhoR μ ρ ρ' o.op.operands) (w : World) :
    ∃ u, (execOp ρ' o).run P w = .ok (.value u) w ∧ VR μ v u := by
  obtain ⟨dst, op, ty, pos, after, guard⟩ := o
  simp only at h hr
  cases op <;> simp only [pureE] at h
  case move x => exact ⟨ρ' x, rfl, hr x (by simp [Op.operands]) v h⟩
  case assign x => exact ⟨ρ' x, rfl, hr x (by simp [Op.operands]) v h⟩
  case pick c a b =>
    split at h
    · rename_i e
      have := (hr c (by simp [Op.operands]) _ e).bool_inv
      exact ⟨ρ' a, by simp [execOp, this, asBool], hr a (by simp [Op.operands]) v h⟩
    · rename_i e
      have := (hr c (by simp [Op.operands]) _ e).bool_inv
      exact ⟨ρ' b, by simp [execOp, this, asBool], hr b (by simp [Op.operands]) v h⟩
    · cases h
  case nilCheck x =>
    split at h
    · rename_i b o e
      cases h
      have hx := hr x (by simp [Op.operands]) _ e
      obtain ⟨bi, hb, e'⟩ := hx.ptr_inv
      exact ⟨_, by simp [execOp, e'], .ptr hb⟩
    · rename_i f a b e
      cases h
      obtain ⟨xs, ys, e', h1, h2⟩ := (hr x (by simp [Op.operands]) _ e).fn_inv
      exact ⟨_, by simp [execOp, e'], .fn h1 h2⟩
    · rename_i l e
      cases h
      obtain ⟨bi, hb, e'⟩ := (hr x (by simp [Op.operands]) _ e).yld_inv
      exact ⟨_, by simp [execOp, e'], .yld hb⟩
    · cases h
  case binOp op t x y yt =>
    split at h
    · rename_i a b ea eb
      obtain ⟨u, hu, hv⟩ := bin_sim hC h (hr x (by simp [Op.operands]) _ ea) (hr y (by simp [Op.operands]) _ eb) w
      exact ⟨u, by simp only [execOp, Sem.run_bind] at hu ⊢; rw [hu]; rfl, hv⟩
    · cases h
  case unOp op t x =>
    split at h
    · rename_i k n e
      cases h
      have := (hr x (by simp [Op.operands]) _ e).int_inv
      exact ⟨_, by simp [execOp, this, Op.unary, Op.intArith], .int _ _⟩
    · rename_i b e
      cases h
      have := (hr x (by simp [Op.operands]) _ e).bool_inv
      exact ⟨_, by simp [execOp, this, Op.unary], .bool _⟩
    · cases h
  case convert s d x =>
    split at h
    · rename_i si k _ _ _ kk n hs hd e
      cases h
      obtain ⟨ti, z, h1, -⟩ := hC.got hd
      obtain ⟨tj, z', h1', -⟩ := hC.got hs
      have := (hr x (by simp [Op.operands]) _ e).int_inv
      exact ⟨_, by simp [execOp, Go.convert, run_und h1, run_und h1', this, Conv.intToInt], .int _ _⟩
    · rename_i si _ _ _ st hs hd e
      cases h
      obtain ⟨ti, z, h1, -⟩ := hC.got hd
      obtain ⟨tj, z', h1', -⟩ := hC.got hs
      have := (hr x (by simp [Op.operands]) _ e).str_inv
      exact ⟨_, by simp [execOp, Go.convert, run_und h1, run_und h1', this], .str _⟩
    · rename_i si _ _ _ kk n hs hd e
      cases h
      obtain ⟨ti, z, h1, -⟩ := hC.got hd
      obtain ⟨tj, z', h1', -⟩ := hC.got hs
      have := (hr x (by simp [Op.operands]) _ e).int_inv
      exact ⟨_, by simp [execOp, Go.convert, run_und h1, run_und h1', this, Conv.intToString], .str _⟩
    · cases h
  case fieldAddr s x f =>
    split at h
    · rename_i b o hi e
      obtain ⟨ti, z, h1, -⟩ := hC.got hi
      obtain ⟨bi, hb, e'⟩ := (hr x (by simp [Op.operands]) _ e).ptr_inv
      split at h
      · rename_i fd hf
        split at h
        · rename_i fi hfi
          obtain ⟨tj, z', -, h2, h3, -⟩ := hC.got hfi
          split at h
          · cases h
          · rename_i hs
            cases h
            refine ⟨.pointer (some ⟨bi.c, bi.base + (o + fd.offset), none⟩), ?_, .ptr hb⟩
            simp [execOp, Instr.fieldAt, run_und h1, hf, e', Instr.sureAddr, fieldPlace, run_size h2, h3, hs, add_same, Nat.add_assoc]
        · cases h
      · cases h
    · cases h
  case field t x f =>
    split at h
    · rename_i cs hi e
      obtain ⟨ti, z, h1, -⟩ := hC.got hi
      obtain ⟨xs, e', hxs⟩ := (hr x (by simp [Op.operands]) _ e).agg_inv
      split at h
      · rename_i fd hf
        obtain ⟨u, hu, hv⟩ := part_sim hC h hxs w
        exact ⟨u, by simp [execOp, Instr.field, run_und h1, hf, e', asAgg, hu], hv⟩
      · cases h
    · cases h
  case indexAddr t x ix =>
    split at h
    · rename_i b o len cap k n hi ex en
      obtain ⟨ti, z, h1, -⟩ := hC.got hi
      obtain ⟨bi, hb, e'⟩ := (hr x (by simp [Op.operands]) _ ex).sl_inv
      have en' := (hr ix (by simp [Op.operands]) _ en).int_inv
      split at h
      · rename_i ei he
        obtain ⟨tj, z', -, h2, h3, -⟩ := hC.got he
        split at h
        · rename_i hc
          cases h
          refine ⟨.pointer (some ⟨bi.c, bi.base + (o + n.toNat * ei.size), none⟩), ?_, .ptr hb⟩
          simp [execOp, Instr.indexAt, run_und h1, e', en', asIntOf, hc, run_size h2, h3, add_same, Nat.add_assoc]
        · cases h
      · cases h
    · rename_i b o len cap k n hi ex en
      obtain ⟨ti, z, h1, -⟩ := hC.got hi
      obtain ⟨a0, c, e', -, hq⟩ := (hr x (by simp [Op.operands]) _ ex).slu_inv
      have en' := (hr ix (by simp [Op.operands]) _ en).int_inv
      split at h
      · rename_i ei he
        obtain ⟨tj, z', -, h2, h3, -⟩ := hC.got he
        split at h
        · rename_i hc
          cases h
          obtain ⟨bi, hb, ⟨q1, -⟩ | ⟨-, rfl⟩⟩ := hq
          · omega
          refine ⟨.pointer (some ⟨bi.c, bi.base + (o + n.toNat * ei.size), none⟩), ?_, .ptr hb⟩
          simp [execOp, Instr.indexAt, run_und h1, e', en', asIntOf, hc, run_size h2, h3, add_same, Nat.add_assoc]
        · cases h
      · cases h
    · rename_i b o k n hi ex en
      obtain ⟨ti, z, h1, -⟩ := hC.got hi
      obtain ⟨bi, hb, e'⟩ := (hr x (by simp [Op.operands]) _ ex).ptr_inv
      have en' := (hr ix (by simp [Op.operands]) _ en).int_inv
      split at h
      · rename_i ei he
        obtain ⟨tj, z', -, h2, h3, -⟩ := hC.got he
        split at h
        · rename_i hc
          cases h
          refine ⟨.pointer (some ⟨bi.c, bi.base + (o + n.toNat * ei.size), none⟩), ?_, .ptr hb⟩
          simp [execOp, Instr.indexAt, run_und h1, e', en', asIntOf, hc, run_size h2, h3, add_same, Instr.sureAddr, Nat.add_assoc]
        · cases h
      · cases h
    · cases h
  case index t x ix =>
    split at h
    · rename_i cs k n hi ex en
      obtain ⟨ti, z, h1, -⟩ := hC.got hi
      obtain ⟨xs, e', hxs⟩ := (hr x (by simp [Op.operands]) _ ex).agg_inv
      have en' := (hr ix (by simp [Op.operands]) _ en).int_inv
      split at h
      · rename_i ei he
        obtain ⟨tj, z', -, h2, h3, -⟩ := hC.got he
        split at h
        · rename_i hc
          obtain ⟨u, hu, hv⟩ := part_sim hC h hxs w
          refine ⟨u, ?_, hv⟩
          rw [← h3] at hu
          simp [execOp, Instr.index, run_und h1, e', en', asIntOf, hc, run_size h2, hu]
        · cases h
      · cases h
    · rename_i st k n hi ex en
      obtain ⟨ti, z, h1, -⟩ := hC.got hi
      have e' := (hr x (by simp [Op.operands]) _ ex).str_inv
      have en' := (hr ix (by simp [Op.operands]) _ en).int_inv
      split at h
      · rename_i hc
        split at h
        · rename_i b hb
          cases h
          exact ⟨_, by simp [execOp, Instr.index, run_und h1, e', en', asIntOf, hc, hb], .int _ _⟩
        · cases h
      · cases h
    · cases h
  case extract t i =>
    split at h
    · rename_i vs e
      obtain ⟨xs, e', hxs⟩ := (hr t (by simp [Op.operands]) _ e).tup_inv
      obtain ⟨u, hu, hv⟩ := hxs.get h
      exact ⟨u, by simp at hu; simp [execOp, Instr.extract, e', hu], hv⟩
    · cases h
  case slice t x lo hi mx =>
    cases mx with
    | some m => cases h
    | none =>
    simp only at h
    have hr2 : ∀ y ∈ lo.toList ++ hi.toList, ∀ a, ρ y = some a → VR μ a (ρ' y) := fun y hy a e => hr y (by
      simp only [Op.operands]
      rcases List.mem_append.1 hy with hy | hy
      · have : lo = some y := by simpa using hy
        subst this; simp
      · have : hi = some y := by simpa using hy
        subst this; simp) a e
    split at h
    · -- a string
      rename_i st hi' ex
      obtain ⟨ti, z, h1, -⟩ := hC.got hi'
      have e' := (hr x (by simp [Op.operands]) _ ex).str_inv
      split at h
      · rename_i hh eh
        split at h
        · rename_i ll el
          cases h
          have hb := bounds_sim (P := P) (isSlice := false) (len := st.size) (Nat.le_refl st.size) eh el hr2 w
          refine ⟨_, ?_, .str _⟩
          simp [execOp, Instr.sliceAt, Instr.slice, run_und h1, e', hb]
        · cases h
      · cases h
    · -- a slice whose room is known
      rename_i b o len cap hi' ex
      obtain ⟨ti, z, h1, -⟩ := hC.got hi'
      obtain ⟨bi, hbi, e'⟩ := (hr x (by simp [Op.operands]) _ ex).sl_inv
      split at h
      · cases h
      · rename_i ei he
        obtain ⟨tj, z', -, h2, h3, -⟩ := hC.got he
        split at h
        · rename_i hh eh
          split at h
          · rename_i ll el
            cases h
            have hb := bounds_sim (P := P) (isSlice := true) (len := len) (Nat.le_refl cap) eh el hr2 w
            refine ⟨.slice (some ⟨bi.c, bi.base + (if cap = ll then o else o + ll * ei.size), none⟩) (hh - ll) (cap - ll), ?_, .sl hbi⟩
            simp [execOp, Instr.sliceAt, Instr.slice, run_und h1, e', hb, run_size h2, h3, add_same]
            split <;> simp [Nat.add_assoc]
          · cases h
        · cases h
    · -- a slice whose room is not known
      rename_i b o len esz hi' ex
      obtain ⟨ti, z, h1, -⟩ := hC.got hi'
      obtain ⟨a0, cap, e', hlc, bi, hbi, hq⟩ := (hr x (by simp [Op.operands]) _ ex).slu_inv
      split at h
      · cases h
      · rename_i ei he
        obtain ⟨tj, z', -, h2, h3, -⟩ := hC.got he
        split at h
        · rename_i hh eh
          have hhl : hh ≤ len := by
            cases hi with
            | none => simp at eh; omega
            | some y =>
              simp only [bound] at eh
              split at eh
              · split at eh
                · cases eh; omega
                · cases eh
              · cases eh
          split at h
          · rename_i ll el
            have hll : ll ≤ hh := by
              cases lo with
              | none => simp at el; omega
              | some y =>
                simp only [bound] at el
                split at el
                · split at el
                  · cases el; omega
                  · cases el
                · cases el
            have hb := bounds_sim (P := P) (isSlice := true) (len := len) (cap := cap) hlc eh el hr2 w
            have hrun : ∃ a', (execOp ρ' ⟨dst, .slice t x lo hi none, ty, pos, after, guard⟩).run P w = .ok (.value (.slice (some a') (hh - ll) (cap - ll))) w ∧ (cap ≠ ll → a' = a0.add (ll * ei.size)) ∧ (cap = ll → a' = a0) := by
              refine ⟨if cap = ll then a0 else a0.add (ll * ei.size), ?_, fun hn => if_neg hn, fun hn => if_pos hn⟩
              simp [execOp, Instr.sliceAt, Instr.slice, run_und h1, e', hb, run_size h2, h3]
              try (split <;> simp)
            obtain ⟨a', hrun, ha1, ha2⟩ := hrun
            split at h
            · rename_i hc
              cases h
              subst hc
              by_cases hcl : cap = ll
              · have z : hh - ll = 0 := by omega
                have z2 : cap - ll = 0 := by omega
                rw [z] at hrun ⊢
                rw [z2] at hrun
                exact ⟨_, hrun, .sluz hbi _ _ _⟩
              · obtain ⟨-, q2⟩ | ⟨htop, rfl⟩ := hq
                · omega
                · have := ha1 hcl
                  rw [add_same, Nat.add_assoc] at this
                  subst this
                  refine ⟨_, hrun, .slu hbi ?_ (by omega) (by omega)⟩
                  rw [Nat.add_assoc, ← Nat.add_mul, show ll + (cap - ll) = cap by omega]
                  exact htop
            · split at h
              · rename_i hc
                cases h
                obtain ⟨rfl, -⟩ := hc
                rw [Nat.sub_self] at hrun
                exact ⟨_, hrun, .sle _ _⟩
              · split at h
                · rename_i hc
                  cases h
                  subst hc
                  obtain ⟨q1, q2⟩ | ⟨htop, rfl⟩ := hq
                  · subst q1; subst q2
                    have : hh = 0 := by omega
                    subst this
                    exact ⟨_, hrun, .sluz hbi _ _ _⟩
                  · have : a' = ⟨bi.c, bi.base + o, none⟩ := by
                      by_cases hz : cap = 0
                      · exact ha2 hz
                      · rw [ha1 hz, add_same]; simp
                    subst this
                    exact ⟨_, hrun, .slu hbi (by simpa using htop) (by omega) (by omega)⟩
                · cases h
          · cases h
        · cases h
    · -- a nil slice
      rename_i hi' ex
      obtain ⟨ti, z, h1, -⟩ := hC.got hi'
      have e' := (hr x (by simp [Op.operands]) _ ex).nils_inv
      split at h
      · cases h
      rename_i hne
      split at h
      · rename_i hh eh
        split at h
        · rename_i ll el
          cases h
          have hh0 : hh = 0 := by
            cases hi with
            | none => simp at eh; omega
            | some y =>
              simp only [bound] at eh
              split at eh
              · split at eh
                · cases eh; omega
                · cases eh
              · cases eh
          have hl0 : ll = 0 := by
            cases lo with
            | none => simp at el; omega
            | some y =>
              simp only [bound] at el
              split at el
              · split at el
                · cases el; omega
                · cases el
              · cases el
          have hb := bounds_sim (P := P) (isSlice := true) (len := 0) (Nat.le_refl 0) eh el hr2 w
          obtain ⟨tj, h2⟩ : ∃ tj, P.info? _ = some tj := by
            cases hce : C.ty _ with
            | none => exact absurd (by rw [hce]; rfl) hne
            | some q =>
              obtain ⟨a, _, _, b, _⟩ := hC.got hce
              exact ⟨a, b⟩
          subst hh0; subst hl0
          refine ⟨.slice none 0 0, ?_, .nils⟩
          simp [execOp, Instr.sliceAt, Instr.slice, run_und h1, e', hb, run_size h2]
        · cases h
      · cases h
    · -- an empty slice
      rename_i hi' ex
      obtain ⟨ti, z, h1, -⟩ := hC.got hi'
      obtain ⟨a0, c0, e'⟩ := (hr x (by simp [Op.operands]) _ ex).sle_inv
      split at h
      · cases h
      rename_i hne
      split at h
      · rename_i hh eh
        split at h
        · rename_i ll el
          cases h
          have hh0 : hh = 0 := by
            cases hi with
            | none => simp at eh; omega
            | some y =>
              simp only [bound] at eh
              split at eh
              · split at eh
                · cases eh; omega
                · cases eh
              · cases eh
          have hl0 : ll = 0 := by
            cases lo with
            | none => simp at el; omega
            | some y =>
              simp only [bound] at el
              split at el
              · split at el
                · cases el; omega
                · cases el
              · cases el
          have hb := bounds_sim (P := P) (isSlice := true) (len := 0) (cap := c0) (Nat.zero_le _) eh el hr2 w
          obtain ⟨tj, h2⟩ : ∃ tj, P.info? _ = some tj := by
            cases hce : C.ty _ with
            | none => exact absurd (by rw [hce]; rfl) hne
            | some q =>
              obtain ⟨a, _, _, b, _⟩ := hC.got hce
              exact ⟨a, b⟩
          subst hh0; subst hl0
          refine ⟨.slice (some a0) 0 c0, ?_, .sle _ _⟩
          simp [execOp, Instr.sliceAt, Instr.slice, run_und h1, e', hb, run_size h2]
          intro _
          cases a0
          rfl
        · cases h
      · cases h
    · -- an array
      rename_i b o hi' ex
      obtain ⟨ti, z, h1, -⟩ := hC.got hi'
      obtain ⟨bi, hbi, e'⟩ := (hr x (by simp [Op.operands]) _ ex).ptr_inv
      split at h
      · cases h
      · rename_i ei he
        obtain ⟨tj, z', -, h2, h3, -⟩ := hC.got he
        split at h
        · rename_i hh eh
          split at h
          · rename_i ll el
            cases h
            have hb := bounds_sim (P := P) (isSlice := false) (Nat.le_refl _) eh el hr2 w
            refine ⟨_, ?_, .sl hbi⟩
            simp [execOp, Instr.sliceAt, run_und h1, e', Instr.sureAddr, hb, run_size h2, h3, add_same]
            try simp only [Nat.add_assoc]
            split <;> simp
          · cases h
        · cases h
    · cases h
  case build t parts =>
    split at h
    · rename_i i ps hi ep
      obtain ⟨ti, z, h1, h2, h3, -, hz, hzr, hzl⟩ := hC.got hi
      have hzc : VRs μ i.zero.cells z.cells.toList := (hzr.mono (fun _ _ e => by cases e)).cells
      have hps := partsE_sim (ρ' := ρ') ep fun p hp a e => hr p.2 (by
        simp only [Op.operands]
        exact List.mem_toArray.2 (List.mem_map.2 ⟨p, hp, rfl⟩)) a e
      split at h
      · rename_i fs hd
        rw [hd] at h1
        split at h
        · rename_i pl epl
          split at h
          · rename_i cs ef
            cases h
            obtain ⟨ys, hy, hys⟩ := fill_sim (place' := fun k => pl.toArray[k]?) (fun i p e => by simpa using e) ef hps hzc
            refine ⟨.agg ys.toArray, ?_, .agg (by simpa using hys)⟩
            have hm := places_sim' hC epl w
            have hmap : (parts.map fun (i, x) => (i, ρ' x)).toList = parts.toList.map fun (i, x) => (i, ρ' x) := by simp
            simp only [execOp, Instr.build, Sem.run_bind, run_zero h2 hz, Result.andThen_ok, run_und h1, hm, hmap]
            rw [show z.cells = z.cells.toList.toArray by simp, hy]
            rfl
          · cases h
        · cases h
      · rename_i n e hd
        rw [hd] at h1
        split at h
        · rename_i ei he
          obtain ⟨tj, z', -, h2', h3', -⟩ := hC.got he
          split at h
          · rename_i cs ef
            cases h
            obtain ⟨ys, hy, hys⟩ := fill_sim (place' := fun k => some (k * ei.size, ei.size)) (fun i p e => e) ef hps hzc
            refine ⟨.agg ys.toArray, ?_, .agg (by simpa using hys)⟩
            have hmap : (parts.map fun (i, x) => (i, ρ' x)).toList = parts.toList.map fun (i, x) => (i, ρ' x) := by simp
            simp only [execOp, Instr.build, Sem.run_bind, run_zero h2 hz, Result.andThen_ok, run_und h1, run_size h2', h3', hmap]
            rw [show z.cells = z.cells.toList.toArray by simp, hy]
            rfl
          · cases h
        · cases h
      · cases h
    · cases h
  case makeFunc fn first captured =>
    cases fn <;> simp only at h <;> try (cases h; done)
    split at h
    · rename_i as bs e1 e2
      cases h
      refine ⟨.func (.func _) (first.map ρ') (captured.map ρ'), by simp [execOp, Instr.makeFunc], .fn ?_ ?_⟩
      · simpa using opds_sim e1 fun y hy => hr y (by simp [Op.operands]; exact .inl (by simpa using hy))
      · simpa using opds_sim e2 fun y hy => hr y (by simp [Op.operands]; exact .inr (by simpa using hy))
    · cases h
  case call c =>
    obtain ⟨callee, args, argTypes⟩ := c
    cases callee <;> simp only at h <;> try (cases h; done)
    split at h
    · rename_i b as e
      have hs := opds_sim (ρ' := ρ') e fun y hy => hr y (by simp [Op.operands, Call.operands]; simpa using hy)
      obtain ⟨u, hu, hv⟩ := builtinP_sim hC h (vs := args.map ρ') (by simpa using hs) ty (args.map fun | .const _ => true | _ => false) w
      exact ⟨u, by simp only [execOp, resolve, Sem.run_bind, Sem.run_pure, Result.andThen_ok, invoke]; exact hu, hv⟩
    · cases h
  all_goals cases h
end Go.PI
namespace Go.PI
variable {P : Program} {C : Ctx} {μ : M}
theorem cellAt {w : World} {c o : Nat} {carr : Array Value} {ty : TypeId} {fz : Nat × Nat} (h : w.heap[c]? = some (.cells carr ty fz)) : w.cell? ⟨c, o, none⟩ = carr[o]? := by simp [World.cell?, h]
theorem HR.cells {H : Heap} {w : World} (h : HR μ H w) {b : Nat} {bi : BI} {rw : Bool} {ty : TypeId} {cs : List AV} (hb : H.get b = .cells rw ty cs) (hm : μ b = some bi) :
    bi.c < w.heap.size ∧ ∃ carr fz, w.heap[bi.c]? = some (.cells carr ty fz) ∧ carr.size = bi.base + bi.top ∧ cs.length ≤ bi.top ∧ VRs μ cs ((carr.toList.drop bi.base).take cs.length) ∧ (rw = true → fz = (0, 0)) := by
  have := h.blk b bi (by rw [hb]; rfl) hm
  rw [hb] at this
  obtain ⟨h1, carr, fz, h2, h3, h4, h5, h6, -⟩ := this
  exact ⟨h1, carr, fz, h2, h3, h4, h5, h6⟩
theorem HR.base {H : Heap} {w : World} (h : HR μ H w) {b : Nat} {bi : BI} {rw : Bool} {ty : TypeId} {cs : List AV} (hb : H.get b = .cells rw ty cs) (hm : μ b = some bi) : bi.base = 0 ∨ qty ty = true := by
  have := h.blk b bi (by rw [hb]; rfl) hm
  rw [hb] at this
  obtain ⟨h1, carr, fz, h2, h3, h4, h5, h6, h7⟩ := this
  exact h7
theorem loadCells_sim {w : World} {c o n : Nat} {carr : Array Value} {ty : TypeId} {fz : Nat × Nat} (h : w.heap[c]? = some (.cells carr ty fz)) (hl : o + n ≤ carr.size) :
    (loadCells ⟨c, o, none⟩ n).run P w = .ok ((carr.toList.drop o).take n).toArray w := by
  have e := run_loadCells_list (P := P) w ⟨c, o, none⟩ ((carr.toList.drop o).take n) (fun j v hj => by
    rw [add_same, cellAt h]
    rw [List.getElem?_take] at hj
    split at hj
    · rw [List.getElem?_drop] at hj; simpa using hj
    · cases hj)
  rw [List.length_take, List.length_drop, Array.length_toList, Nat.min_eq_left (by omega)] at e
  exact e
theorem VRs.sub {cs : List AV} {vs : List Value} {k : Nat} (h : VRs μ cs (vs.take cs.length)) (o n : Nat) (hl : o + n ≤ cs.length) : VRs μ ((cs.drop o).take n) ((vs.drop o).take n) := by
  have := (h.drop o).take n
  rw [List.drop_take, List.take_take, Nat.min_eq_left (by omega)] at this
  exact this
theorem loadE_sim (hC : Ctx.Ok P C) {H : Heap} {w : World} (hH : HR μ H w) {t : TypeId} {a v : AV} {a' : Value} (h : loadE C t a H = some v) (ha : VR μ a a') :
    ∃ u, (Instr.loadAt t a').run P w = .ok u w ∧ VR μ v u := by
  unfold loadE at h
  split at h
  · rename_i i b o hi
    obtain ⟨bi, hbi, rfl⟩ := ha.ptr_inv
    split at h
    · rename_i rw' ty cs hg
      obtain ⟨hlt, carr, fz, hw, htop, hlen, hvs, -⟩ := hH.cells hg hbi
      obtain ⟨ti, z, h1, h2, h3, -⟩ := hC.got hi
      unfold partE at h
      simp only [hi] at h
      have key : aggD i.desc = true → o + i.size ≤ cs.length → v = .agg ((cs.drop o).take i.size) → ∃ u, (Instr.loadAt t (.pointer (some ⟨bi.c, bi.base + o, none⟩))).run P w = .ok u w ∧ VR μ v u := fun hg hl e => by
        subst e
        refine ⟨_, ?_, .agg (xs := ((carr.toList.drop (bi.base + o)).take i.size).toArray) (by have := VRs.sub (k := 0) hvs o i.size hl; rw [List.drop_drop] at this; exact this)⟩
        simp only [Instr.loadAt, Instr.sureAddr, loadVar, Sem.run_bind, Sem.run_pure, Result.andThen_ok, run_isAgg h1, hg, if_true, run_size h2, h3, loadCells_sim hw (show bi.base + o + i.size ≤ carr.size by omega)]
      have key2 : aggD i.desc = false → cs[o]? = some v → ∃ u, (Instr.loadAt t (.pointer (some ⟨bi.c, bi.base + o, none⟩))).run P w = .ok u w ∧ VR μ v u := fun hg e => by
        obtain ⟨u, hu, hr⟩ := hvs.get e
        have ho : o < cs.length := (List.getElem?_eq_some_iff.1 e).1
        rw [List.getElem?_take, if_pos ho, List.getElem?_drop] at hu
        refine ⟨u, ?_, hr⟩
        simp only [Instr.loadAt, Instr.sureAddr, loadVar, Sem.run_bind, Sem.run_pure, Result.andThen_ok, run_isAgg h1, hg, Bool.false_eq_true, if_false, run_load, cellAt hw]
        simp at hu
        rw [hu]
      cases hd : i.desc <;> simp only [hd] at h <;> first
        | (split at h
           · exact key (by simp [hd, aggD]) ‹_› (by simpa using h.symm)
           · cases h)
        | exact key2 (by simp [hd, aggD]) h
    · cases h
  · cases h
theorem range_zero (z : Array Value) (n : Nat) : ((Array.range (n * z.size)).map fun i => z[i % z.size]!) = (List.replicate n z.toList).flatten.toArray := by
  apply Array.ext'
  simp only [Array.toList_map, Array.toList_range]
  induction n with
  | zero => simp
  | succ n ih =>
    rw [Nat.succ_mul, List.range_add, List.map_append, ih, List.replicate_succ', List.flatten_append]
    congr 1
    simp only [List.map_map, List.flatten_singleton]
    apply List.ext_getElem?
    intro i
    simp only [List.getElem?_map]
    by_cases hi : i < z.size
    · simp [Nat.mod_eq_of_lt hi, hi]
    · simp [hi]
theorem VRs.rep {as : List AV} {vs : List Value} (h : VRs μ as vs) (n : Nat) : VRs μ (List.replicate n as).flatten (List.replicate n vs).flatten := by
  induction n with
  | zero => exact .nil
  | succ n ih => simp only [List.replicate_succ, List.flatten_cons]; exact h.append ih
theorem ptr_at {ν : M} {A : Nat} {bi : BI} {c : Nat} (hA : ν A = some bi) (hc : bi.c = c) (hb : bi.base = 0) : VR ν (.ptr A 0) (.pointer (some ⟨c, 0, none⟩)) := by
  have := VR.ptr (off := 0) hA
  rw [hc, hb] at this
  exact this
theorem sl_at {ν : M} {A l k : Nat} {bi : BI} {c : Nat} (hA : ν A = some bi) (hc : bi.c = c) (hb : bi.base = 0) : VR ν (.sl A 0 l k) (.slice (some ⟨c, 0, none⟩) l k) := by
  have := VR.sl (off := 0) (len := l) (cap := k) hA
  rw [hc, hb] at this
  exact this
theorem alloc_sim (hC : Ctx.Ok P C) {ρ : Operand → Option AV} {ρ' : Operand → Value} {o : Oper} {b : Blk} {f : Nat → AV} (h : allocE C ρ o.op = some (b, f)) (hr : RhoR μ ρ ρ' o.op.operands) (w : World) :
    ∃ (ty : TypeId) (cs : List AV) (carr : Array Value) (u : Value), b = .cells true ty cs ∧ VRs μ cs carr.toList ∧ (execOp ρ' o).run P w = .ok (.value u) (w.alloc (.cells carr ty)) ∧
      ∀ (ν : M) (A : Nat) (bi : BI), ν A = some bi → bi.c = w.heap.size → bi.base = 0 → VR ν (f A) u := by
  obtain ⟨dst, op, ty, pos, after, guard⟩ := o
  simp only at h hr
  cases op <;> simp only [allocE] at h
  case alloc e =>
    split at h
    · rename_i i hi
      cases h
      obtain ⟨ti, z, h1, h2, h3, -, hz, hzr, hzl⟩ := hC.got hi
      have hzc : VRs μ i.zero.cells z.cells.toList := (hzr.mono (fun _ _ e => by cases e)).cells
      refine ⟨e, _, z.cells, .pointer (some ⟨w.heap.size, 0, none⟩), rfl, hzc, ?_, fun ν A bi hA hc hb0 => ptr_at hA hc hb0⟩
      simp [execOp, Instr.alloc, run_zero h2 hz, newVar, newRow]
    · cases h
  case box e x =>
    split at h
    · rename_i i v hi hx
      cases h
      refine ⟨e, _, (ρ' x).cells, .pointer (some ⟨w.heap.size, 0, none⟩), rfl, (hr x (by simp [Op.operands]) _ hx).cells, ?_, fun ν A bi hA hc hb0 => ptr_at hA hc hb0⟩
      simp [execOp, Instr.box, newVar, newRow]
    · cases h
  case buildSlice t len parts =>
    split at h
    · rename_i e _ _ _ ps hi ep
      obtain ⟨ti, z, h1, -⟩ := hC.got hi
      split at h
      · rename_i ei he
        obtain ⟨tj, z', -, h2, h3, -, hz, hzr, hzl⟩ := hC.got he
        have hzc : VRs μ ei.zero.cells z'.cells.toList := (hzr.mono (fun _ _ e => by cases e)).cells
        have hzs : z'.cells.size = ei.size := by rw [← Array.length_toList, ← hzc.length]; exact hzl
        split at h
        · cases h
        · rename_i hc
          split at h
          · rename_i cs ef
            cases h
            have hps := partsE_sim (ρ' := ρ') ep fun p hp a e => hr p.2 (by
              simp only [Op.operands]
              exact List.mem_toArray.2 (List.mem_map.2 ⟨p, hp, rfl⟩)) a e
            obtain ⟨ys, hy, hys⟩ := fill_sim (place' := fun k => some (k * ei.size, ei.size)) (fun i p e => e) ef hps (hzc.rep len)
            refine ⟨e, _, ys.toArray, .slice (some ⟨w.heap.size, 0, none⟩) len len, rfl, by simpa using hys, ?_, fun ν A bi hA hc hb0 => sl_at hA hc hb0⟩
            have hmap : (parts.map fun (i, x) => (i, ρ' x)).toList = parts.toList.map fun (i, x) => (i, ρ' x) := by simp
            have hnot : ¬ (len * ei.size > 2 ^ 24) := by omega
            have hrow : ((Array.range (len * ei.size)).map fun i => (if len * ei.size = 0 then #[] else z'.cells)[i % (if len * ei.size = 0 then #[] else z'.cells).size]!) = (List.replicate len z'.cells.toList).flatten.toArray := by
              by_cases h0 : len * ei.size = 0
              · rw [h0]
                rcases Nat.mul_eq_zero.1 h0 with h0 | h0
                · simp [h0]
                · have : z'.cells.toList = [] := by
                    rw [h0] at hzs; simpa using hzs
                  simp [this]
              · simp only [if_neg h0]
                rw [← hzs]; exact range_zero _ _
            simp only [execOp, Instr.buildSlice, Sem.run_bind, run_und h1, Result.andThen_ok, run_size h2, h3, if_neg hnot, Sem.run_pure, hmap]
            by_cases h0 : len * ei.size = 0
            · simp only [if_pos h0] at hrow ⊢
              simp only [Sem.run_bind, Sem.run_pure, Result.andThen_ok, hrow, hy, newRow, run_newObj_alloc]
            · simp only [if_neg h0] at hrow ⊢
              simp only [Sem.run_bind, Sem.run_pure, Result.andThen_ok, run_zero h2 hz, hrow, hy, newRow, run_newObj_alloc]
          · cases h
      · cases h
    · cases h
  case makeSlice t l c =>
    split at h
    · rename_i e _ _ _ ln cn hi el ec
      obtain ⟨ti, z, h1, -⟩ := hC.got hi
      have hl' := (hr l (by simp [Op.operands]) _ el).int_inv
      have hc' := (hr c (by simp [Op.operands]) _ ec).int_inv
      split at h
      · rename_i ei he
        obtain ⟨tj, z', -, h2, h3, h4, hz, hzr, hzl⟩ := hC.got he
        have hzc : VRs μ ei.zero.cells z'.cells.toList := (hzr.mono (fun _ _ e => by cases e)).cells
        have hzs : z'.cells.size = ei.size := by rw [← Array.length_toList, ← hzc.length]; exact hzl
        split at h
        · rename_i hc
          obtain ⟨c1, c2, c3, c4, c5⟩ := hc
          cases h
          refine ⟨e, _, (List.replicate cn.toNat z'.cells.toList).flatten.toArray, .slice (some ⟨w.heap.size, 0, none⟩) ln.toNat cn.toNat, rfl, by simpa using hzc.rep cn.toNat, ?_, fun ν A bi hA hc hb0 => sl_at hA hc hb0⟩
          have w1 : IntKind.i64.wrap ln = ln := IntWalk.i64_in ln (by omega)
          have w2 : IntKind.i64.wrap cn = cn := IntWalk.i64_in cn (by omega)
          have t1 : ¬ ((decide (cn < 0) || decide ((ei.bytes : Int) * cn > 2 ^ 48)) = true ∨ ln < 0 ∨ ln > cn) := by
            simp only [Bool.or_eq_true, decide_eq_true_eq, not_or]
            have : (ei.bytes : Int) * cn ≤ 2 ^ 10 * 2 ^ 30 := Int.mul_le_mul (by omega) (by omega) (by omega) (by omega)
            omega
          have hrow : ((Array.range (cn.toNat * ei.size)).map fun i => (if cn.toNat * ei.size = 0 then #[] else z'.cells)[i % (if cn.toNat * ei.size = 0 then #[] else z'.cells).size]!) = (List.replicate cn.toNat z'.cells.toList).flatten.toArray := by
            by_cases h0 : cn.toNat * ei.size = 0
            · rw [h0]
              rcases Nat.mul_eq_zero.1 h0 with h0 | h0
              · simp [h0]
              · have : z'.cells.toList = [] := by
                  rw [h0] at hzs; simpa using hzs
                simp [this]
            · simp only [if_neg h0]
              rw [← hzs]; exact range_zero _ _
          simp only [execOp, Instr.makeSlice, Sem.run_bind, run_und h1, Result.andThen_ok, hl', hc', asInt, asIntOf, Sem.run_pure, run_info h2, w1, w2, h4]
          rw [if_neg (by simpa [and_assoc] using t1)]
          simp only [Sem.run_bind, run_askRoom, Result.andThen_ok, run_size h2, h3]
          by_cases h0 : cn.toNat * ei.size = 0
          · simp only [if_pos h0] at hrow ⊢
            simp only [Sem.run_bind, Sem.run_pure, Result.andThen_ok, hrow, newRow, run_newObj_alloc]
          · simp only [if_neg h0] at hrow ⊢
            simp only [Sem.run_bind, Sem.run_pure, Result.andThen_ok, run_zero h2 hz, hrow, newRow, run_newObj_alloc]
        · cases h
      · cases h
    · cases h
  all_goals cases h
end Go.PI
namespace Go.PI
variable {P : Program} {C : Ctx} {μ : M}
theorem BlkR.mono {μ ν : M} {w w' : World} {bi : BI} {b : Blk} (h : BlkR μ w bi b) (hm : M.le μ ν) (hw : w'.heap[bi.c]? = w.heap[bi.c]?) : BlkR ν w' bi b := by
  cases b with
  | dead => trivial
  | cells rw ty cs =>
    obtain ⟨carr, fz, h1, h2, h3, h4, h5⟩ := h
    exact ⟨carr, fz, hw.trans h1, h2, h3, VRs.mono hm h4, h5⟩
  | dfr => exact hw.trans h
  | loop L =>
    obtain ⟨lp, h1, h2, h3, h4, h5, h6, h7, bd, h8, h9⟩ := h
    exact ⟨lp, hw.trans h1, h2, h3, VRs.mono hm h4, h5, h6, h7, bd, hm _ _ h8, h9⟩
  | map k es =>
    obtain ⟨ms, clock, h1, h2⟩ := h
    exact ⟨ms, clock, hw.trans h1, h2.mono' fun _ _ ⟨a, b⟩ => ⟨a, b.mono hm⟩⟩
  | smap es =>
    obtain ⟨ms, clock, h1, h2⟩ := h
    exact ⟨ms, clock, hw.trans h1, h2.mono' fun _ _ ⟨a, b⟩ => ⟨a, b.mono hm⟩⟩
  | siter s pos => exact ⟨h.1, hw.trans h.2⟩
structure SameOut (w w' : World) : Prop where
  os : w'.os = w.os
  tape : w'.tape = w.tape
  output : w'.output = w.output
theorem SameOut.refl (w : World) : SameOut w w := ⟨rfl, rfl, rfl⟩
theorem HR.push {H : Heap} {w w' : World} (hH : HR μ H w) (hn : H.n < PI.lim) {bi : BI} {b : Blk} (hc : w.heap.size ≤ bi.c) (hc' : bi.c < w'.heap.size) (ho : SameOut w w') (hs : w.heap.size ≤ w'.heap.size) (hk : ∀ k, k < w.heap.size → w'.heap[k]? = w.heap[k]?)
    (hb : BlkR (μ.set H.n bi) w' bi b) (hown : b.own = true := by rfl) : HR (μ.set H.n bi) (H.push b) w' ∧ Fr μ H w (μ.set H.n bi) (H.push b) w' := by
  have hle : M.le μ (μ.set H.n bi) := M.le_set (hH.dom _ (Nat.le_refl _))
  have hold : ∀ {A a}, A ≠ H.n → (μ.set H.n bi) A = some a → μ A = some a := fun h e => by unfold M.set at e; rwa [if_neg h] at e
  refine ⟨⟨by simp [Heap.push]; omega, fun A hA => ?_, fun A a hl hm => ?_, fun A B a b' hAB hoA hlB hmA hmB => ?_⟩, ⟨hle, fun A hA => by unfold M.set; rw [if_neg (by omega)], by simp [Heap.push], ho.os, ho.tape, ho.output, hs, fun k hks hno => ⟨hk k hks, ?_⟩, fun A hl hno => by
    rw [Heap.get_push hn] at hl hno ⊢
    by_cases e : A = H.n
    · subst e; rw [if_pos rfl] at hno; rw [hown] at hno; cases hno
    · rw [if_neg e] at hl hno ⊢
      exact ⟨Heap.lt_of_get (fun e => by rw [e] at hl; cases hl), rfl⟩⟩⟩
  · simp only [Heap.push] at hA
    unfold M.set; rw [if_neg (by omega)]; exact hH.dom A (by omega)
  · rw [Heap.get_push hn] at hl ⊢
    by_cases e : A = H.n
    · subst e
      rw [M.set_self] at hm; cases hm
      rw [if_pos rfl]
      exact ⟨hc', hb⟩
    · rw [if_neg e] at hl ⊢
      obtain ⟨h1, h2⟩ := hH.blk A a hl (hold e hm)
      exact ⟨by omega, h2.mono hle (hk _ h1)⟩
  · rw [Heap.get_push hn] at hoA hlB
    by_cases e : A = H.n
    · subst e
      rw [M.set_self] at hmA; cases hmA
      rw [if_neg (Ne.symm hAB)] at hlB
      have := (hH.blk B b' hlB (hold (Ne.symm hAB) hmB)).1
      omega
    · rw [if_neg e] at hoA
      have h1 := (hH.blk A a (Blk.live_of_own hoA) (hold e hmA)).1
      by_cases e' : B = H.n
      · subst e'
        rw [M.set_self] at hmB; cases hmB
        omega
      · rw [if_neg e'] at hlB
        exact hH.inj A B a b' hAB hoA hlB (hold e hmA) (hold e' hmB)
  · rintro ⟨A, a, hoA, hmA, rfl⟩
    rw [Heap.get_push hn] at hoA
    by_cases e : A = H.n
    · subst e
      rw [M.set_self] at hmA; cases hmA
      omega
    · rw [if_neg e] at hoA
      exact hno ⟨A, a, hoA, hold e hmA, rfl⟩
theorem HR.set {H : Heap} {w w' : World} (hH : HR μ H w) {b : Nat} {bi : BI} {blk : Blk} (hb : (H.get b).own = true) (hm : μ b = some bi) (ho : SameOut w w') (hs : w'.heap.size = w.heap.size) (hk : ∀ k, k ≠ bi.c → w'.heap[k]? = w.heap[k]?)
    (hr : BlkR μ w' bi blk) (hown : blk.live = blk.own := by rfl) : HR μ (H.set b blk) w' ∧ Fr μ H w μ (H.set b blk) w' := by
  have hbn : b < H.n := Heap.lt_of_get (fun e => by rw [e] at hb; cases hb)
  have hlim := hH.lim
  have hbl : b < H.n → H.n < PI.lim ∨ H.n = PI.lim := fun _ => by omega
  have hget : ∀ X, (H.set b blk).get X = if X = b then blk else H.get X := fun X => by
    unfold Heap.get Heap.set PI.lim at *
    simp only
    by_cases hX : X < H.n
    · rw [if_pos hX, if_pos hX, Tr.get_set 40 _ _ _ _ (by omega)]
    · rw [if_neg hX, if_neg hX, if_neg (by omega)]
  have hbc := (hH.blk b bi (Blk.live_of_own hb) hm).1
  refine ⟨⟨hlim, hH.dom, fun A a hl hmA => ?_, fun A B a b' hAB hoA hlB hmA hmB => ?_⟩, ⟨M.le.refl _, fun _ _ => rfl, Nat.le_refl _, ho.os, ho.tape, ho.output, by omega, fun k hks hno => ⟨hk k (fun e => hno ⟨b, bi, hb, hm, e.symm⟩), ?_⟩, fun A hl hno => by
    rw [hget] at hl hno ⊢
    by_cases e : A = b
    · rw [if_pos e] at hl hno; rw [hown, hno] at hl; cases hl
    · rw [if_neg e] at hl ⊢
      exact ⟨Heap.lt_of_get (fun e => by rw [e] at hl; cases hl), rfl⟩⟩⟩
  · rw [hget] at hl ⊢
    by_cases e : A = b
    · subst e
      rw [hm] at hmA; cases hmA
      rw [if_pos rfl]
      exact ⟨by omega, hr⟩
    · rw [if_neg e] at hl ⊢
      obtain ⟨h1, h2⟩ := hH.blk A a hl hmA
      exact ⟨by omega, h2.mono (M.le.refl _) (hk _ (fun e' => hH.inj b A bi a (Ne.symm e) hb hl hm hmA e'.symm))⟩
  · rw [hget] at hoA hlB
    by_cases e : A = b
    · subst e
      rw [if_neg (Ne.symm hAB)] at hlB
      exact hH.inj A B a b' hAB hb hlB hmA hmB
    · rw [if_neg e] at hoA
      by_cases e' : B = b
      · subst e'
        exact hH.inj A B a b' hAB hoA (Blk.live_of_own hb) hmA hmB
      · rw [if_neg e'] at hlB
        exact hH.inj A B a b' hAB hoA hlB hmA hmB
  · rintro ⟨A, a, hoA, hmA, rfl⟩
    rw [hget] at hoA
    by_cases e : A = b
    · subst e; exact hno ⟨A, a, hb, hmA, rfl⟩
    · rw [if_neg e] at hoA; exact hno ⟨A, a, hoA, hmA, rfl⟩
theorem HR.alike {H H' : Heap} {w : World} (hH : HR μ H w) (hn : H'.n = H.n) (hg : ∀ A, H'.get A = H.get A) : HR μ H' w ∧ Fr μ H w μ H' w :=
  ⟨⟨by rw [hn]; exact hH.lim, fun A hA => hH.dom A (by omega), fun A bi hl hm => by rw [hg] at hl ⊢; exact hH.blk A bi hl hm, fun A B a b h1 h2 h3 h4 h5 => by rw [hg] at h2 h3; exact hH.inj A B a b h1 h2 h3 h4 h5⟩,
    ⟨M.le.refl _, fun _ _ => rfl, by omega, rfl, rfl, rfl, Nat.le_refl _, fun k hk ho => ⟨rfl, by rintro ⟨A, a, h1, h2, h3⟩; rw [hg] at h1; exact ho ⟨A, a, h1, h2, h3⟩⟩, fun A hl ho => by
      rw [hg] at hl ho ⊢
      exact ⟨Heap.lt_of_get (fun e => by rw [e] at hl; cases hl), rfl⟩⟩⟩
theorem Heap.set_same {H : Heap} {b : Nat} {x : Blk} (hx : H.get b = x) (hl : x.live = true) (hn : H.n ≤ PI.lim) (A : Nat) : (H.set b x).get A = H.get A := by
  have hb : b < H.n := Heap.lt_of_get (fun e => by rw [hx] at e; rw [e] at hl; cases hl)
  unfold Heap.get Heap.set PI.lim at *
  simp only
  by_cases hA : A < H.n
  · rw [if_pos hA, if_pos hA, Tr.get_set 40 _ _ _ _ (by omega)]
    split
    · rename_i e; subst e; rw [if_pos hb] at hx; exact hx.symm
    · rfl
  · rw [if_neg hA, if_neg hA]
theorem HR.kill {H : Heap} {w : World} (hH : HR μ H w) {b : Nat} (hb : b < H.n) (hn : H.n < PI.lim) : HR μ (H.set b .dead) w ∧ Fr μ H w μ (H.set b .dead) w := by
  have hget : ∀ X, (H.set b .dead).get X = if X = b then .dead else H.get X := fun X => Heap.get_set hb hn X
  refine ⟨⟨hH.lim, hH.dom, fun A a hl hm => ?_, fun A B a b' hAB hoA hlB hmA hmB => ?_⟩, ⟨M.le.refl _, fun _ _ => rfl, Nat.le_refl _, rfl, rfl, rfl, Nat.le_refl _, fun k hk ho => ⟨rfl, ?_⟩, fun A hl ho => ?_⟩⟩
  · rw [hget] at hl ⊢
    by_cases e : A = b
    · rw [if_pos e] at hl; cases hl
    · rw [if_neg e] at hl ⊢; exact hH.blk A a hl hm
  · rw [hget] at hoA hlB
    by_cases e : A = b
    · rw [if_pos e] at hoA; cases hoA
    · by_cases e' : B = b
      · rw [if_pos e'] at hlB; cases hlB
      · rw [if_neg e] at hoA; rw [if_neg e'] at hlB; exact hH.inj A B a b' hAB hoA hlB hmA hmB
  · rintro ⟨A, a, h1, h2, h3⟩
    rw [hget] at h1
    by_cases e : A = b
    · rw [if_pos e] at h1; cases h1
    · rw [if_neg e] at h1; exact ho ⟨A, a, h1, h2, h3⟩
  · rw [hget] at hl ho ⊢
    by_cases e : A = b
    · rw [if_pos e] at hl; cases hl
    · rw [if_neg e] at hl ⊢
      exact ⟨Heap.lt_of_get (fun e => by rw [e] at hl; cases hl), rfl⟩
theorem HR.move {H : Heap} {w w' : World} (hH : HR μ H w) (hn : H.n < PI.lim) {b : Nat} {bi bi' : BI} {blk : Blk} (hb : (H.get b).own = true) (hm : μ b = some bi) (hc : bi'.c = bi.c) (ho : SameOut w w') (hs : w'.heap.size = w.heap.size) (hk : ∀ k, k ≠ bi.c → w'.heap[k]? = w.heap[k]?)
    (hr : BlkR (μ.set H.n bi') w' bi' blk) (hown : blk.own = true := by rfl) : HR (μ.set H.n bi') ((H.set b .dead).push blk) w' ∧ Fr μ H w (μ.set H.n bi') ((H.set b .dead).push blk) w' := by
  have hbn : b < H.n := Heap.lt_of_get (fun e => by rw [e] at hb; cases hb)
  have hle : M.le μ (μ.set H.n bi') := M.le_set (hH.dom _ (Nat.le_refl _))
  have hold : ∀ {A a}, A ≠ H.n → (μ.set H.n bi') A = some a → μ A = some a := fun h e => by unfold M.set at e; rwa [if_neg h] at e
  have hget : ∀ X, ((H.set b .dead).push blk).get X = if X = H.n then blk else if X = b then .dead else H.get X := fun X => by
    rw [Heap.get_push (by simpa [Heap.set] using hn), Heap.get_set hbn hn]; rfl
  have hbc := (hH.blk b bi (Blk.live_of_own hb) hm).1
  refine ⟨⟨by simp [Heap.push, Heap.set]; omega, fun A hA => ?_, fun A a hl hmA => ?_, fun A B a b' hAB hoA hlB hmA hmB => ?_⟩, ⟨hle, fun A hA => by unfold M.set; rw [if_neg (by omega)], by simp [Heap.push, Heap.set], ho.os, ho.tape, ho.output, by omega, fun k hks hno => ⟨hk k (fun e => hno ⟨b, bi, hb, hm, e.symm⟩), ?_⟩, fun A hl hno => by
    rw [hget] at hl hno ⊢
    by_cases e : A = H.n
    · subst e; rw [if_pos rfl] at hno; rw [hown] at hno; cases hno
    · rw [if_neg e] at hl hno ⊢
      by_cases e2 : A = b
      · rw [if_pos e2] at hl; cases hl
      · rw [if_neg e2] at hl ⊢
        exact ⟨Heap.lt_of_get (fun e => by rw [e] at hl; cases hl), rfl⟩⟩⟩
  · simp only [Heap.push, Heap.set] at hA
    unfold M.set; rw [if_neg (by omega)]; exact hH.dom A (by omega)
  · rw [hget] at hl ⊢
    by_cases e : A = H.n
    · subst e
      rw [M.set_self] at hmA; cases hmA
      rw [if_pos rfl]
      exact ⟨by omega, hr⟩
    · rw [if_neg e] at hl ⊢
      by_cases e2 : A = b
      · rw [if_pos e2] at hl; cases hl
      · rw [if_neg e2] at hl ⊢
        obtain ⟨h1, h2⟩ := hH.blk A a hl (hold e hmA)
        exact ⟨by omega, h2.mono hle (hk _ (fun e' => hH.inj b A bi a (Ne.symm e2) hb hl hm (hold e hmA) e'.symm))⟩
  · rw [hget] at hoA hlB
    by_cases eA : A = H.n
    · subst eA
      rw [M.set_self] at hmA; cases hmA
      rw [if_neg (Ne.symm hAB)] at hlB
      by_cases e2 : B = b
      · rw [if_pos e2] at hlB; cases hlB
      · rw [if_neg e2] at hlB
        rw [hc]
        exact hH.inj b B bi b' (Ne.symm e2) hb hlB hm (hold (Ne.symm hAB) hmB)
    · rw [if_neg eA] at hoA
      by_cases e2 : A = b
      · rw [if_pos e2] at hoA; cases hoA
      · rw [if_neg e2] at hoA
        by_cases eB : B = H.n
        · subst eB
          rw [M.set_self] at hmB; cases hmB
          rw [hc]
          exact hH.inj A b a bi e2 hoA (Blk.live_of_own hb) (hold eA hmA) hm
        · rw [if_neg eB] at hlB
          by_cases e3 : B = b
          · rw [if_pos e3] at hlB; cases hlB
          · rw [if_neg e3] at hlB
            exact hH.inj A B a b' hAB hoA hlB (hold eA hmA) (hold eB hmB)
  · rintro ⟨A, a, hoA, hmA, rfl⟩
    rw [hget] at hoA
    by_cases e : A = H.n
    · subst e
      rw [M.set_self] at hmA; cases hmA
      exact hno ⟨b, bi, hb, hm, hc.symm⟩
    · rw [if_neg e] at hoA
      by_cases e2 : A = b
      · rw [if_pos e2] at hoA; cases hoA
      · rw [if_neg e2] at hoA; exact hno ⟨A, a, hoA, hold e hmA, rfl⟩
end Go.PI
