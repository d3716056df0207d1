/- Own work of the verifier: PiOp PiReg PiMain. -/
import Derived.Test.YtefajaiioljjoaaOmAF
set_option linter.all false
set_option exponentiation.threshold 3000
set_option linter.deprecated false
namespace Go.PI
variable {P : Program} {C : Ctx} {μ : M}
theorem b2s_inv {P : Program} {C : Ctx} (hC : Ctx.Ok P C) {e : TypeId} {b o l : Nat} {H H' : Heap} {v : AV} (h : b2sE C e b o l H = some (v, H')) :
    P.underlying e = some (.int .u8) ∧ ∃ bs : List UInt8, v = .str ⟨bs.toArray⟩ ∧ H' = H ∧ 0 < l ∧ ∃ cs rw ty, H.get b = .cells rw ty cs ∧ bytesOf ((cs.drop o).take l) = some bs ∧ o + l ≤ cs.length := by
  unfold b2sE at h
  split at h
  · rename_i hc
    obtain ⟨ti, z, h1, -⟩ := hC.got hc
    split at h
    · rename_i hg
      split at h
      · rename_i hl
        split at h
        · rename_i bs hb
          cases h
          exact ⟨h1, bs, rfl, rfl, hl.1, _, _, _, hg, hb, hl.2⟩
        · cases h
      · cases h
    · cases h
  · cases h
theorem semAt_of {o : Oper} (h : ∀ c, o.op ≠ .defer c) (ro : Option Nat) (ρ : Operand → Value) : o.semAt ro ρ = execOp ρ o := Oper.semAt_eq ro ρ o h
theorem wpIn_value {F : Fence} {n : Nat} (hF : Wd F) {o : Oper} {a : Act} {w w' : World} {u : Value} {next : Act → World → Prop} {Q : Exit → Act → World → Prop} (hd : ∀ c, o.op ≠ .defer c) (h : (execOp a.eval o).run P w = .ok (.value u) w') (k : next (a.put o.dst u) w') : o.wpIn F n P a w next Q :=
  ⟨fun f _ => hF.1 f, by rw [semAt_of hd, h]; exact k⟩
theorem wpIn_skip' {F : Fence} {n : Nat} (hF : Wd F) {o : Oper} {a : Act} {w w' : World} {next : Act → World → Prop} {Q : Exit → Act → World → Prop} (hd : ∀ c, o.op ≠ .defer c) (h : (execOp a.eval o).run P w = .ok .skip w') (k : next (a.put o.dst undef) w') : o.wpIn F n P a w next Q :=
  ⟨fun f _ => hF.1 f, by rw [semAt_of hd, h]; exact k⟩
theorem wd_depth {F : Fence} (hF : Wd F) {n : Nat} : F.depth.isSome = true → 1 ≤ n := fun h => by rw [hF.2.1] at h; cases h
theorem pure_notDefer {ρ : Operand → Option AV} {op : Op} {v : AV} (h : pureE C ρ op = some v) : ∀ c, op ≠ .defer c := fun c e => by subst e; simp [pureE] at h
theorem runes_list (s : ByteArray) : ∀ (n i : Nat) (acc : Array Value), (Conv.runesFrom s n i acc).toList = acc.toList ++ (runesF s n i).map (Value.int .i32)
  | 0, i, acc => by simp [Conv.runesFrom, runesF]
  | n + 1, i, acc => by
    unfold Conv.runesFrom runesF
    split
    · rw [runes_list s n]
      simp
    · simp
theorem runes_vr {μ : M} : ∀ (xs : List Int), VRs μ (xs.map (AV.int .i32)) (xs.map (Value.int .i32))
  | [] => .nil
  | x :: xs => .cons (.int _ _) (runes_vr xs)
theorem runes_sim {H : Heap} {w : World} (hH : HR μ H w) (hn : H.n < PI.lim) (e : TypeId) (s : ByteArray) (hsm : (runesE s).length ≤ 2 ^ 30) : ∃ w' cap, (Conv.stringToRunes e s).run P w = .ok (.slice (some ⟨w.heap.size, 0, none⟩) (runesE s).length cap) w' ∧ (runesE s).length ≤ cap ∧ cap ≤ maxLen ∧
    HR (μ.set H.n ⟨w.heap.size, cap, 0⟩) (H.push (.cells true e (runesE s))) w' ∧ Fr μ H w (μ.set H.n ⟨w.heap.size, cap, 0⟩) (H.push (.cells true e (runesE s))) w' := by
  have hl : (Conv.runesFrom s s.size 0 #[]).toList = (runesF s s.size 0).map (Value.int .i32) := by simpa using runes_list s s.size 0 #[]
  have hsz : (Conv.runesFrom s s.size 0 #[]).size = (runesE s).length := by
    rw [← Array.length_toList, hl]; simp [runesE]
  have hcap : (Conv.runesFrom s s.size 0 #[]).size ≤ grownCap w (Conv.runesFrom s s.size 0 #[]).size 0 e := by unfold grownCap; exact Nat.le_add_right _ _
  have hg := push_grown hH hn (e := e) (runes_vr (μ := μ) (runesF s s.size 0)) (Conv.runesFrom s s.size 0 #[] ++ Array.replicate (grownCap w (Conv.runesFrom s s.size 0 #[]).size 0 e - (Conv.runesFrom s s.size 0 #[]).size) (Value.int .i32 0)) (rest := (Array.replicate (grownCap w (Conv.runesFrom s s.size 0 #[]).size 0 e - (Conv.runesFrom s s.size 0 #[]).size) (Value.int .i32 0)).toList) (by simp [hl])
  have hs2 : (Conv.runesFrom s s.size 0 #[] ++ Array.replicate (grownCap w (Conv.runesFrom s s.size 0 #[]).size 0 e - (Conv.runesFrom s s.size 0 #[]).size) (Value.int .i32 0)).size = grownCap w (Conv.runesFrom s s.size 0 #[]).size 0 e := by simp; omega
  rw [hs2] at hg
  refine ⟨_, grownCap w (Conv.runesFrom s s.size 0 #[]).size 0 e, ?_, by rw [← hsz]; exact hcap, Go.grownCap_le_maxLen _ _ _ _ (by rw [hsz]; unfold maxLen; omega), hg.1, hg.2⟩
  rw [← hsz]
  simp [Conv.stringToRunes, Question.forced, newRow, grownCap]
set_option maxHeartbeats 400000 in
theorem eff_sim (hC : Ctx.Ok P C) {ih : Ih} (hih : IhOk P ih) {o : Oper} {ρ : Operand → Option AV} {a : Act} {H H' : Heap} {v : AV} {w : World} (h : effE C ih ρ o.op H = some (v, H')) (hr : RhoR μ ρ a.eval o.op.operands) (hH : HR μ H w)
    {F : Fence} {n : Nat} (hF : Wd F) {next : Act → World → Prop} {Q : Exit → Act → World → Prop} (k : ∀ u w', EffR μ H w v H' u w' → next (a.put o.dst u) w') : o.wpIn F n P a w next Q := by
  obtain ⟨dst, op, ty, pos, after, guard⟩ := o
  simp only at h hr k
  cases op <;> simp only [effE] at h <;> try (cases h; done)
  case store t x y =>
    split at h
    · rename_i av vv ea ev
      split at h
      · rename_i H1 hs
        cases h
        obtain ⟨w', hrun, hh, hf⟩ := storeE_sim hC hH hs (hr x (by simp [Op.operands]) _ ea) (hr y (by simp [Op.operands]) _ ev)
        refine wpIn_skip' hF (by simp) (w' := w') (by simp [execOp, hrun]) (k _ _ ⟨μ, undefR, hh, hf⟩)
      · cases h
    · cases h
  case makeMap t r =>
    cases r with
    | some r => simp only at h; cases h
    | none =>
      obtain ⟨u, w', hrun, hE⟩ := makeMap_sim hC hH h
      exact wpIn_value hF (by simp) (u := u) (w' := w') (by simp [execOp, hrun]) (k _ _ hE)
  case lookup t m key ok =>
    split at h
    · rename_i mv kv em ek
      obtain ⟨u, hrun, hv, rfl⟩ := lookup_sim hC hH h (hr m (by simp [Op.operands]) _ em) (hr key (by simp [Op.operands]) _ ek)
      exact wpIn_value hF (by simp) (u := u) (w' := w) (by simp [execOp, hrun]) (k _ _ ⟨μ, hv, hH, Fr.refl _ _ _⟩)
    · cases h
  case mapUpdate t m key x =>
    split at h
    · rename_i mv kv xv em ek ex
      obtain ⟨w', hrun, rfl, hh, hf⟩ := update_sim hC hH h (hr m (by simp [Op.operands]) _ em) (hr key (by simp [Op.operands]) _ ek) (hr x (by simp [Op.operands]) _ ex)
      exact wpIn_skip' hF (by simp) (w' := w') (by simp [execOp, hrun]) (k _ _ ⟨μ, undefR, hh, hf⟩)
    · cases h
  case insert t m key x =>
    split at h
    · rename_i mv kv xv em ek ex
      obtain ⟨w', hrun, rfl, hh, hf⟩ := update_sim hC hH h (hr m (by simp [Op.operands]) _ em) (hr key (by simp [Op.operands]) _ ek) (hr x (by simp [Op.operands]) _ ex)
      exact wpIn_skip' hF (by simp) (w' := w') (by simp [execOp, hrun]) (k _ _ ⟨μ, undefR, hh, hf⟩)
    · cases h
  case convert s d x =>
    split at h
    · rename_i t _ _ _ _ _ _ b o hs hd ex
      obtain ⟨bi, hb, e'⟩ := (hr x (by simp [Op.operands]) _ ex).ptr_inv
      obtain ⟨ts, zs, s1, -⟩ := hC.got hs
      obtain ⟨td, zd, d1, -⟩ := hC.got hd
      split at h
      · rename_i rw' ty' cs ti hg hti
        obtain ⟨tt, zt, -, t2, t3, -⟩ := hC.got hti
        obtain ⟨hlt, carr, fz, hw, htop, hlen, hvs, hfz⟩ := hH.cells hg hb
        split at h
        · rename_i hc
          cases h
          refine wpIn_value hF (by simp) (u := .pointer (some ⟨bi.c, bi.base + o, none⟩)) (w' := w) ?_ (k _ _ ⟨μ, .ptr hb, hH, Fr.refl _ _ _⟩)
          simp [execOp, e', toUnsafe s1 d1 t2 (by rw [t3]; exact hc.2) hw (show bi.base + o < carr.size by omega)]
        · cases h
      · cases h
    · rename_i u _ _ _ _ _ _ b o hs hd ex
      obtain ⟨bi, hb, e'⟩ := (hr x (by simp [Op.operands]) _ ex).ptr_inv
      obtain ⟨ts, zs, s1, -⟩ := hC.got hs
      obtain ⟨td, zd, d1, -⟩ := hC.got hd
      split at h
      · rename_i rw' ty' cs ti hg hti
        obtain ⟨tt, zt, -, t2, t3, -⟩ := hC.got hti
        obtain ⟨hlt, carr, fz, hw, htop, hlen, hvs, hfz⟩ := hH.cells hg hb
        split at h
        · rename_i hc
          obtain ⟨rfl, c2, c3, c4⟩ := hc
          cases h
          have hal : (bi.base + o) % ti.size = 0 := by
            rcases c3.2 with h | h
            · rcases hH.base hg hb with h2 | h2
              · rw [h2, Nat.zero_add]; exact c3.1
              · rw [h] at h2; cases h2
            · rw [h]; exact Nat.mod_one _
          refine wpIn_value hF (by simp) (u := .pointer (some ⟨bi.c, bi.base + o, none⟩)) (w' := w) ?_ (k _ _ ⟨μ, .ptr hb, hH, Fr.refl _ _ _⟩)
          simp [execOp, e', ofUnsafe s1 d1 t2 (by rw [t3]; exact c2) hw (by rw [t3]; exact hal) (show bi.base + o + tt.size ≤ carr.size by omega)]
        · cases h
      · cases h
    · rename_i e0 _ _ _ st hs hd ex
      have e' := (hr x (by simp [Op.operands]) _ ex).str_inv
      obtain ⟨ts, zs, s1, -⟩ := hC.got hs
      obtain ⟨td, zd, d1, -⟩ := hC.got hd
      split at h
      · rename_i _ _ _ he0
        obtain ⟨te, ze, e1, -⟩ := hC.got he0
        split at h
        · cases h
        · rename_i hl
          cases h
          obtain ⟨w', cap, hrun, hcap, hcapm, g1, g2⟩ := runes_sim (P := P) hH (show H.n < PI.lim by omega) e0 st (by omega)
          refine wpIn_value hF (by simp) (u := .slice (some ⟨w.heap.size, 0, none⟩) (runesE st).length cap) (w' := w') (by simp [execOp, Go.convert, run_und s1, run_und d1, run_und e1, e']; rw [hrun]; rfl) (k _ _ ⟨_, ?_, g1, g2⟩)
          exact .slu (off := 0) (M.set_self _ _ _) (by show 0 + cap * 1 ≤ cap; omega) hcap hcapm
      · cases h
    · rename_i e0 _ _ _ _ _ _ b o l cp hs hd ex
      obtain ⟨bi, hb, e'⟩ := (hr x (by simp [Op.operands]) _ ex).sl_inv
      obtain ⟨ts, zs, s1, -⟩ := hC.got hs
      obtain ⟨td, zd, d1, -⟩ := hC.got hd
      obtain ⟨e1, bs, q1, q2, q3, cs, rw', ty', hg, hbs, hol⟩ := b2s_inv hC h
      cases q1; cases q2
      obtain ⟨hlt, carr, fz, hw, htop, hlen, hvs, hfz⟩ := hH.cells hg hb
      refine wpIn_value hF (by simp) (u := .string ⟨bs.toArray⟩) (w' := w) ?_ (k _ _ ⟨μ, .str _, hH, Fr.refl _ _ _⟩)
      have hv2 : VRs μ ((cs.drop o).take l) ((carr.toList.drop (bi.base + o)).take l) := by
        have := (hvs.drop o).take l
        rw [List.drop_take, List.drop_drop, List.take_take, Nat.min_eq_left (by omega)] at this
        exact this
      simp [execOp, e', run_b2s s1 e1 d1 hw hv2 hbs (by omega)]
    · rename_i e0 _ _ _ _ _ _ b o l hs hd ex
      obtain ⟨a, cp, e', hlc, bi, hb, hor, -⟩ := (hr x (by simp [Op.operands]) _ ex).slu_inv
      obtain ⟨ts, zs, s1, -⟩ := hC.got hs
      obtain ⟨td, zd, d1, -⟩ := hC.got hd
      obtain ⟨e1, bs, q1, q2, q3, cs, rw', ty', hg, hbs, hol⟩ := b2s_inv hC h
      cases q1; cases q2
      obtain ⟨hlt, carr, fz, hw, htop, hlen, hvs, hfz⟩ := hH.cells hg hb
      rcases hor with ⟨rfl, -⟩ | ⟨-, rfl⟩
      · omega
      refine wpIn_value hF (by simp) (u := .string ⟨bs.toArray⟩) (w' := w) ?_ (k _ _ ⟨μ, .str _, hH, Fr.refl _ _ _⟩)
      have hv2 : VRs μ ((cs.drop o).take l) ((carr.toList.drop (bi.base + o)).take l) := by
        have := (hvs.drop o).take l
        rw [List.drop_take, List.drop_drop, List.take_take, Nat.min_eq_left (by omega)] at this
        exact this
      simp [execOp, e', run_b2s s1 e1 d1 hw hv2 hbs (by omega)]
    · cases h
  case range t x =>
    split at h
    · rename_i _ _ _ st hs ex
      have e' := (hr x (by simp [Op.operands]) _ ex).str_inv
      obtain ⟨ts, zs, s1, -⟩ := hC.got hs
      split at h
      · cases h
      · rename_i hl
        cases h
        have hn : H.n < PI.lim := by omega
        have hp := hH.push (w' := w.alloc (.stringIter st 0)) hn (bi := ⟨w.heap.size, 0, 0⟩) (b := .siter st 0) (Nat.le_refl _) (by simp only [World.size_alloc]; omega) ⟨rfl, rfl, rfl⟩ (by simp only [World.size_alloc]; omega)
          (fun k hk => RowKit.Below.heap_alloc _ _ _ hk) ⟨rfl, (MapKept.heap_alloc w _).1⟩
        exact wpIn_value hF (by simp) (u := .pointer (some ⟨w.heap.size, 0, none⟩)) (w' := _) (by simp [execOp, Instr.range, run_und s1, e']) (k _ _ ⟨_, VR.ptr0 (M.set_self _ _ _), hp.1, hp.2⟩)
    · cases h
  case next x isS =>
    cases isS with
    | false => simp only at h; cases h
    | true =>
    simp only at h
    split at h
    · rename_i b ex
      obtain ⟨bi, hb, e'⟩ := (hr x (by simp [Op.operands]) _ ex).ptr_inv
      split at h
      · rename_i st q hg
        have hbk := hH.blk b bi (by rw [hg]; rfl) hb
        rw [hg] at hbk
        obtain ⟨hlt, hb0, hw⟩ := hbk
        rw [hb0] at e'
        split at h
        · rename_i hq
          cases h
          have hset := hH.set (w' := { w with heap := w.heap.setIfInBounds bi.c (.stringIter st (q + (Utf8.decode st q).2)) }) (blk := .siter st (q + (Utf8.decode st q).2)) (by rw [hg]; rfl) hb ⟨rfl, rfl, rfl⟩ (by simp) (fun k hk => (MapKept.heap_set hw).2 k hk) ⟨hb0, (MapKept.heap_set hw).1⟩
          refine wpIn_value hF (by simp) (u := .tuple #[.bool true, goInt q, .int .i32 (Utf8.decode st q).1]) (w' := _) ?_ (k _ _ ⟨μ, .tup (xs := #[.bool true, goInt q, .int .i32 (Utf8.decode st q).1]) (.cons (.bool _) (.cons (.int _ _) (.cons (.int _ _) .nil))), hset.1, hset.2⟩)
          simp [execOp, Instr.next, e', getObj, setObj, Sem.run, hw, hq, Result.andThen]
        · rename_i hq
          cases h
          refine wpIn_value hF (by simp) (u := .tuple #[.bool false]) (w' := w) ?_ (k _ _ ⟨μ, .tup (xs := #[.bool false]) (.cons (.bool _) .nil), hH, Fr.refl _ _ _⟩)
          simp [execOp, Instr.next, e', getObj, Sem.run, hw, hq, Result.andThen]
      · cases h
    · cases h
  case call c =>
    obtain ⟨callee, args, argTypes⟩ := c
    cases callee with
    | invoke r m => simp only at h; cases h
    | builtin b =>
      have hbr : ∀ {as : List AV}, opds ρ args.toList = some as → VRs μ as (args.map a.eval).toList := fun e => by
        simpa using opds_sim (ρ' := a.eval) e fun y hy => hr y (by simp [Op.operands, Call.operands]; simpa using hy)
      cases b <;> simp only at h <;> try (cases h; done)
      case append =>
        split at h
        · rename_i s x e
          have hs := hbr e
          obtain ⟨s', x', hargs, hs1, hx1⟩ : ∃ s' x', args.map a.eval = #[s', x'] ∧ VR μ s s' ∧ VR μ x x' := by
            generalize args.map a.eval = L at hs
            obtain ⟨l⟩ := L; simp only at hs
            cases hs with
            | cons q1 q2 => cases q2 with
              | cons q3 q4 => cases q4; exact ⟨_, _, rfl, q1, q3⟩
          obtain ⟨u, w', hrun, hE⟩ := appendE_sim hC hH h hs1 hx1 ty
          refine wpIn_value hF (by simp) (u := u) (w' := w') ?_ (k _ _ hE)
          simp only [execOp, resolve, Sem.run_bind, Sem.run_pure, Result.andThen_ok, invoke, Go.builtin, hargs, hrun]
        · cases h
      case copy =>
        split at h
        · rename_i s x e
          have hs := hbr e
          obtain ⟨s', x', hargs, hs1, hx1⟩ : ∃ s' x', args.map a.eval = #[s', x'] ∧ VR μ s s' ∧ VR μ x x' := by
            generalize args.map a.eval = L at hs
            obtain ⟨l⟩ := L; simp only at hs
            cases hs with
            | cons q1 q2 => cases q2 with
              | cons q3 q4 => cases q4; exact ⟨_, _, rfl, q1, q3⟩
          obtain ⟨u, w', hrun, hE⟩ := copyE_sim hC hH h hs1 hx1 ty
          refine wpIn_value hF (by simp) (u := u) (w' := w') ?_ (k _ _ hE)
          simp only [execOp, resolve, Sem.run_bind, Sem.run_pure, Result.andThen_ok, invoke, Go.builtin, hargs, hrun]
        · cases h
      case len =>
        split at h
        · rename_i hmap
          split at h
          · rename_i m e
            have hs := hbr e
            obtain ⟨m', hargs, hm1⟩ : ∃ m', args.map a.eval = #[m'] ∧ VR μ m m' := by
              generalize args.map a.eval = L at hs
              obtain ⟨l⟩ := L; simp only at hs
              cases hs with
              | cons q1 q2 => cases q2; exact ⟨_, rfl, q1⟩
            obtain ⟨u, hrun, hv, rfl⟩ := lenMap_sim hC hH hmap h hm1 ty
            refine wpIn_value hF (by simp) (u := u) (w' := w) ?_ (k _ _ ⟨μ, hv, hH, Fr.refl _ _ _⟩)
            simp only [execOp, resolve, Sem.run_bind, Sem.run_pure, Result.andThen_ok, invoke, Go.builtin, hargs, hrun]
          · cases h
        · cases h
      case unsafeString =>
        split at h
        · rename_i pt r et
          obtain ⟨tl⟩ := argTypes; simp only at et; subst et
          split at h
          · rename_i u _ _ _ p nn hpt e
            obtain ⟨tp, zp, p1, -⟩ := hC.got hpt
            have hs := hbr e
            obtain ⟨p', hargs, hp1⟩ : ∃ p', args.map a.eval = #[p', .int .i64 nn] ∧ VR μ p p' := by
              generalize args.map a.eval = L at hs
              obtain ⟨l⟩ := L; simp only at hs
              cases hs with
              | cons q1 q2 => cases q2 with
                | cons q3 q4 => cases q4; rw [q3.int_inv]; exact ⟨_, rfl, q1⟩
            split at h
            · have := hp1.nilp_inv; subst this
              split at h
              · rename_i h0; subst h0
                cases h
                refine wpIn_value hF (by simp) (u := .string .empty) (w' := w) ?_ (k _ _ ⟨μ, .str _, hH, Fr.refl _ _ _⟩)
                simp only [execOp, resolve, Sem.run_bind, Sem.run_pure, Result.andThen_ok, invoke, Go.builtin, hargs]
                rfl
              · cases h
            · rename_i b o
              obtain ⟨bi, hb, rfl⟩ := hp1.ptr_inv
              split at h
              · rename_i ty' cs ui hg hui
                obtain ⟨tu, zu, -, u2, u3, -⟩ := hC.got hui
                obtain ⟨hlt, carr, fz, hw, htop, hlen, hvs, hfz⟩ := hH.cells hg hb
                split at h
                · rename_i hc
                  obtain ⟨rfl, c2, c3, c4, c5⟩ := hc
                  split at h
                  · rename_i bs hbs
                    cases h
                    obtain ⟨m, rfl⟩ := Int.eq_ofNat_of_zero_le (show 0 ≤ nn by omega)
                    simp only [Int.toNat_natCast] at c5 hbs
                    have hrun := run_unsafeString (P := P) (pi := tp) (r := r) (ty := ty) p1 u2 (by rw [u3]; exact c2) hw (n := m) (by omega) (by omega) (show bi.base + o + m ≤ carr.size by omega) (by have := VRs.sub (k := 0) hvs o m c5; rwa [List.drop_drop] at this) hbs
                    refine wpIn_value hF (by simp) (u := .string ⟨bs.toArray⟩) (w' := w.freeze ⟨bi.c, bi.base + o, none⟩ m) ?_ ?_
                    · simp only [execOp, resolve, Sem.run_bind, Sem.run_pure, Result.andThen_ok, invoke, Go.builtin, hargs]
                      rw [show ((m : Nat) : Int) = (Int.ofNat m) from rfl] at hrun
                      exact (congrArg (fun r => Result.andThen r fun v w' => .ok (Next.value v) w') hrun)
                    · refine k _ _ ⟨μ, .str _, hH.set (by rw [hg]; rfl) hb ⟨?_, ?_, ?_⟩ ?_ (fun j hj => ?_) trivial⟩
                      all_goals (unfold World.freeze; rw [if_neg (by omega)])
                      · simp
                      · rw [Array.getElem?_modify, if_neg (Ne.symm hj)]
                  · cases h
                · cases h
              · cases h
            · cases h
          · cases h
        · cases h
    | value f =>
      simp only at h
      have hbr : ∀ {as : List AV}, opds ρ args.toList = some as → VRs μ as (args.map a.eval).toList := fun e => by
        simpa using opds_sim (ρ' := a.eval) e fun y hy => hr y (by simp [Op.operands, Call.operands]; exact .inr (by simpa using hy))
      split at h
      · rename_i g first caps as ef ea
        obtain ⟨xs, ys, e', h1, h2⟩ := (hr f (by simp [Op.operands, Call.operands]) _ ef).fn_inv
        have hall : VRs μ (first ++ as ++ caps) (xs ++ args.map a.eval ++ ys).toList := by
          simp only [Array.toList_append]; exact (h1.append (hbr ea)).append h2
        have hx : ∀ {r : Result Next}, (callFunc g (xs ++ args.map a.eval ++ ys)).run P w = r → (execOp a.eval ⟨dst, .call ⟨.value f, args, argTypes⟩, ty, pos, after, guard⟩).run P w = r := fun hh => by
          rw [← hh]
          simp only [execOp, resolve, e', Deferred.ofValue, Sem.run_bind, Sem.run_pure, Result.andThen_ok, invoke]
        rcases callF_sim hC hih h hall hH with ⟨u, w', hrun, hE⟩ | ⟨hrun, hcalls⟩
        · exact wpIn_value hF (by simp) (hx hrun) (k _ _ hE)
        · refine ⟨fun f _ => hF.1 f, ?_⟩
          rw [semAt_of (by simp), hx hrun]
          refine ⟨wd_depth hF, ?_⟩
          obtain ⟨c1, c2⟩ := hcalls F (n - 1) hF
          refine ⟨c1, fun cs hroom => ?_⟩
          obtain ⟨e, w', fr, ⟨u, rfl, hE⟩, hc⟩ := c2 cs hroom
          exact ⟨_, w', fr, k _ _ hE, hc⟩
      · rename_i l as ef ea
        obtain ⟨bi, hb, e'⟩ := (hr f (by simp [Op.operands, Call.operands]) _ ef).yld_inv
        obtain ⟨ff, tmps, assign, body, hrun, hround⟩ := yieldF_sim hih h (hbr ea) hb hH
        refine ⟨fun f _ => hF.1 f, ?_⟩
        rw [semAt_of (by simp)]
        have hx : (execOp a.eval ⟨dst, .call ⟨.value f, args, argTypes⟩, ty, pos, after, guard⟩).run P w = .ok (.round bi.c ff tmps assign body) w := by
          rw [← hrun]
          simp [execOp, resolve, e', Deferred.ofValue, invoke]
        rw [hx]
        refine ⟨wd_depth hF, (hround F (n - 1) hF).mono ?_⟩
        rintro e w' ⟨u, rfl, hE⟩
        exact k _ _ hE
      · cases h
end Go.PI
namespace Go.PI
variable {P : Program} {C : Ctx} {μ : M}
theorem ofScalar_sim {v : Value} {a : AV} (h : ofScalar v = some a) : VR μ a v := by
  unfold ofScalar at h
  split at h <;> first | (cases h; done) | (cases h; constructor)
theorem ofScalars_sim : ∀ {vs : List Value} {as : List AV}, ofScalars vs = some as → VRs μ as vs
  | [], as, h => by simp [ofScalars] at h; subst h; exact .nil
  | v :: vs, as, h => by
    unfold ofScalars at h
    split at h
    · rename_i a as' e1 e2
      cases h; exact .cons (ofScalar_sim e1) (ofScalars_sim e2)
    · cases h
theorem ofConst_sim {v : Value} {a : AV} (h : ofConst v = some a) : VR μ a v := by
  unfold ofConst at h
  split at h
  · split at h
    · rename_i e; cases h; exact .agg (ofScalars_sim e)
    · cases h
  · split at h
    · rename_i vs e
      cases h
      have : vs = #[] := Array.eq_empty_of_size_eq_zero e
      subst this; exact .tup .nil
    · cases h
  · exact ofScalar_sim h
theorem opd_sim {T : List AV} {a : Act} (hT : VRs μ T a.tmps.toList) {x : Operand} {v : AV} (h : opd T x = some v) : VR μ v (a.eval x) := by
  cases x <;> simp only [opd] at h
  case tmp t => cases h; exact getD_sim hT t
  case const v => exact ofConst_sim h
  case func f => cases h; exact .fn (xs := #[]) (ys := #[]) .nil .nil
  case global g => cases h
theorem execE_sim (hC : Ctx.Ok P C) {ih : Ih} (hih : IhOk P ih) {o : Oper} {T : List AV} {a : Act} {H H' : Heap} {v : AV} {w : World} (h : execE C ih T o H = some (v, H')) (hr : RhoR μ (opd T) a.eval o.op.operands) (hH : HR μ H w)
    {F : Fence} {n : Nat} (hF : Wd F) {next : Act → World → Prop} {Q : Exit → Act → World → Prop} (k : ∀ u w', EffR μ H w v H' u w' → next (a.put o.dst u) w') : o.wpIn F n P a w next Q := by
  unfold execE at h
  split at h
  · split at h
    · rename_i v' e
      cases h
      obtain ⟨u, hu, hv⟩ := pure_sim hC e hr w
      exact wpIn_value hF (pure_notDefer e) hu (k _ _ ⟨μ, hv, hH, Fr.refl _ _ _⟩)
    · cases h
  · obtain ⟨dst, op, ty, pos, after, guard⟩ := o
    cases op <;> simp only at h <;> try (cases h; done)
    rename_i t x _
    split at h
    · rename_i av ea
      split at h
      · rename_i v' e
        cases h
        obtain ⟨u, hu, hv⟩ := loadE_sim hC hH e (hr x (by simp [Op.operands]) _ ea)
        exact wpIn_value hF (by simp) (u := u) (w' := w) (by simp [execOp, hu]) (k _ _ ⟨μ, hv, hH, Fr.refl _ _ _⟩)
      · cases h
    · cases h
  · split at h
    · cases h
    · rename_i hlim
      split at h
      · rename_i b f e
        cases h
        obtain ⟨ty, cs, carr, u, rfl, hcs, hrun, hval⟩ := alloc_sim hC e hr w
        have hn : H.n < PI.lim := by omega
        have hle : M.le μ (μ.set H.n ⟨w.heap.size, carr.size, 0⟩) := M.le_set (hH.dom _ (Nat.le_refl _))
        have hp := hH.push (w' := w.alloc (.cells carr ty)) hn (bi := ⟨w.heap.size, carr.size, 0⟩) (b := .cells true ty cs) (Nat.le_refl _) (by simp only [World.size_alloc]; omega) ⟨rfl, rfl, rfl⟩ (by simp only [World.size_alloc]; omega)
          (fun k hk => RowKit.Below.heap_alloc _ _ _ hk) (blk0 rfl ⟨carr, (0, 0), World.alloc_heap_new _ _, rfl, by rw [hcs.length]; simp, by rw [hcs.length, List.take_of_length_le (Nat.le_refl _)]; exact hcs.mono hle, fun _ => rfl⟩)
        refine wpIn_value hF (fun c e' => ?_) hrun (k _ _ ⟨_, hval _ H.n ⟨w.heap.size, carr.size, 0⟩ (M.set_self _ _ _) rfl rfl, hp.1, hp.2⟩)
        rw [e'] at e; simp [allocE] at e
      · cases h
  · exact eff_sim hC hih h hr hH hF k
  · obtain ⟨dst, op, ty, pos, after, guard⟩ := o
    cases op <;> simp only at h <;> try (cases h; done)
    rename_i t m key ok _
    split at h
    · rename_i av bv ea eb
      split at h
      · rename_i v' H2 hl
        cases h
        obtain ⟨u, hu, hv, -⟩ := lookup_sim hC hH hl (hr m (by simp [Op.operands]) _ ea) (hr key (by simp [Op.operands]) _ eb)
        exact wpIn_value hF (by simp) (u := u) (w' := w) (by simp [execOp, hu]) (k _ _ ⟨μ, hv, hH, Fr.refl _ _ _⟩)
      · cases h
    · cases h
theorem yielded_sim {ops : Array Oper} {T : List AV} {tmps : Array Value} {j : Nat} (h : ∀ d, ((ops[j]?).bind (·.dst)) = some d → ∀ v, T[d]? = some v → ∃ u, tmps[d]? = some u ∧ VR μ v u) (hl : T.length = tmps.size) : yielded ops tmps j = ayielded ops.toList T j := by
  unfold yielded ayielded
  have e : ops.toList[j]? = ops[j]? := by simp
  rw [e]
  cases ho : ops[j]? with
  | none => rfl
  | some o =>
    cases hd : o.dst with
    | none => simp [hd]
    | some d =>
      simp only [Option.bind_some, hd]
      cases hT : T[d]? with
      | none =>
        have : tmps[d]? = none := by simp at hT ⊢; omega
        rw [this]
      | some v =>
        obtain ⟨u, hu, hv⟩ := h d (by simp [ho, hd]) v hT
        rw [hu]
        cases hv <;> first
          | rfl
          | (rename_i hb
             cases u <;> first | rfl | exact absurd rfl (hb _))
theorem wanted_sim {ops : Array Oper} {T : List AV} {tmps : Array Value} (hT : VRs μ T tmps.toList) (o : Oper) : Region.wanted o (yielded ops tmps) = Region.wanted o (ayielded ops.toList T) := by
  have : yielded ops tmps = ayielded ops.toList T := funext fun j => yielded_sim (fun d _ v hv => by
    obtain ⟨u, hu, hr⟩ := hT.get hv
    exact ⟨u, by simpa using hu, hr⟩) (by rw [hT.length]; simp)
  rw [this]
theorem put_sim {T : List AV} {a : Act} (hT : VRs μ T a.tmps.toList) {v : AV} {u : Value} (h : VR μ v u) (d : Option Tmp) : VRs μ (putT T d v) (a.put d u).tmps.toList := by
  cases d with
  | none => exact hT
  | some d => simpa [putT, Act.put] using hT.set h d
theorem put_defers (a : Act) (d : Option Tmp) (u : Value) : (a.put d u).defers = a.defers := by cases d <;> rfl
theorem runE_sim (hC : Ctx.Ok P C) {ih : Ih} (hih : IhOk P ih) {ops : Array Oper} {F : Fence} {n : Nat} (hF : Wd F) {Q : Exit → Act → World → Prop} {T' : List AV} {H' : Heap} : ∀ (rest : List Oper) (k : Nat) (T : List AV) (H : Heap) (μ : M) (a : Act) (w : World), ops.toList.drop k = rest → runE C ih ops.toList rest T H = some (T', H') → VRs μ T a.tmps.toList → HR μ H w →
    (∀ μ' a' w', VRs μ' T' a'.tmps.toList → a'.defers = a.defers → HR μ' H' w' → Fr μ H w μ' H' w' → Q .normal a' w') → wpOpsIn F n P ops Q (List.range' k rest.length) a w
  | [], k, T, H, μ, a, w, hk, h, hT, hH, hq => by
    simp [runE] at h
    obtain ⟨rfl, rfl⟩ := h
    exact hq μ a w hT rfl hH (Fr.refl _ _ _)
  | o :: rest, k, T, H, μ, a, w, hk, h, hT, hH, hq => by
    have ho : ops[k]? = some o := by
      have : (ops.toList.drop k)[0]? = some o := by rw [hk]; rfl
      simpa using this
    have hk' : ops.toList.drop (k + 1) = rest := by
      rw [← List.drop_drop, hk]; rfl
    simp only [List.length_cons, List.range'_succ, wpOpsIn, ho]
    unfold runE at h
    split at h
    · rename_i T1 H1 hs
      unfold stepE at hs
      rw [wanted_sim hT]
      split at hs
      · rename_i hw
        rw [if_pos hw]
        split at hs
        · rename_i v H2 he
          cases hs
          refine execE_sim hC hih he (fun x _ b hb => opd_sim hT hb) hH hF ?_
          rintro u w' ⟨μ', hv, hH2, hf⟩
          refine runE_sim hC hih hF rest (k + 1) _ _ μ' _ w' hk' h (put_sim (VRs.mono hf.le hT) hv _) hH2 fun μ'' a' w'' q1 q2 q3 q4 => ?_
          exact hq μ'' a' w'' q1 (q2.trans (put_defers _ _ _)) q3 (hf.trans q4)
        · cases hs
      · rename_i hw
        rw [if_neg hw]
        cases hs
        refine ⟨fun f _ => hF.1 f, ?_⟩
        refine runE_sim hC hih hF rest (k + 1) _ _ μ _ w hk' h (put_sim hT undefR _) hH fun μ'' a' w'' q1 q2 q3 q4 => ?_
        exact hq μ'' a' w'' q1 (q2.trans (put_defers _ _ _)) q3 q4
    · cases h
end Go.PI
namespace Go.PI
variable {P : Program} {C : Ctx} {μ : M}
def DrawSim (P : Program) (C : Ctx) (ih : Ih) : Prop := ∀ (ops : Array Oper) (tr : List (List AV × Heap)) (T T' : List AV) (H H' : Heap), traceE C ih ops.toList ops.toList T H = some tr → drawOk C ops.toList tr = true → lastOf tr = some (T', H') →
  ∀ (F : Fence) (n : Nat), Wd F → ∀ (Q : Exit → Act → World → Prop) (μ : M) (a : Act) (w : World), VRs μ T a.tmps.toList → HR μ H w →
    (∀ μ' a' w', VRs μ' T' a'.tmps.toList → a'.defers = a.defers → HR μ' H' w' → Fr μ H w μ' H' w' → Q .normal a' w') → ∀ t, wpOpsIn F n P ops Q (Region.linearise .any ops t) a w
theorem RdR.mono {μ ν : M} (h : M.le μ ν) {rd : Option Nat} {F : Fence} (k : RdR μ rd F) : RdR ν rd F := by
  cases rd with
  | none => exact k
  | some l => obtain ⟨bi, h1, h2⟩ := k; exact ⟨bi, h _ _ h1, h2⟩
theorem SimPost.comp {s s1 s' : St} {w w1 : World} {μ1 : M} (hf : Fr μ s.H w μ1 s1.H w1) {e : Ex} {e' : Exit} {a' : Act} {w' : World} (h : SimPost μ1 s1 w1 e s' e' a' w') : SimPost μ s w e s' e' a' w' := by
  obtain ⟨h1, μ', h2, h3⟩ := h
  exact ⟨h1, μ', h2, hf.trans h3⟩
theorem wpIn_then {F : Fence} {n : Nat} {c : Code} {a : Act} {w : World} {s s1 : St} {e : Ex} (h : c.wpIn F n P (SimPost μ s w e s1) a w) {N : Act → World → Prop} {Q : Exit → Act → World → Prop}
    (h1 : e = .normal → ∀ μ1 a1 w1, StR μ1 s1 a1 w1 → Fr μ s.H w μ1 s1.H w1 → N a1 w1) (h2 : e ≠ .normal → ∀ a1 w1, SimPost μ s w e s1 (exR e) a1 w1 → Q (exR e) a1 w1) : c.wpIn F n P (Exit.then N Q) a w :=
  wpIn_mono h fun e' a' w' hp => by
    obtain ⟨rfl, hp2⟩ := hp
    cases e with
    | normal =>
      obtain ⟨μ1, h3, h4⟩ := hp2
      exact h1 rfl μ1 a' w' h3 h4
    | exit id => exact h2 (by simp) _ _ ⟨rfl, hp2⟩
    | goto l => exact h2 (by simp) _ _ ⟨rfl, hp2⟩
    | ret => exact h2 (by simp) _ _ ⟨rfl, hp2⟩
theorem loopF_sim {ih : Ih} (hih : IhOk P ih) {rd : Option Nat} {b : Code} {F : Fence} {n : Nat} (hF : Wd F) {e : Ex} {s' : St} : ∀ (k : Nat) (s : St), loopF ih rd b k s = some (e, s') → ∀ (μ : M) (a : Act) (w : World), RdR μ rd F → StR μ s a w →
    ∀ (fb : Frame) (kk : List Item) (cs : List Frame), fb.roundOf = F.round → F.fn fb.fn → F.room (cs.length + 1 + n) →
      ∃ e' a' w', SimPost μ s w e s' e' a' w' ∧ ArrivesIn (Machine.fenced P F) P (lone (fb.atR a (.code b :: .inLoop b :: kk)) cs w) fb kk cs e' a' w'
  | 0, s, h => by simp [loopF] at h
  | k + 1, s, h => by
    intro μ a w hrd hst fb kk cs hro hb hr
    unfold loopF at h
    have fin : ∀ (e : Ex) (s1 : St), e ≠ .normal → ih rd b s = some (e, s1) → ∃ e' a' w', SimPost μ s w e s1 e' a' w' ∧ ArrivesIn (Machine.fenced P F) P (lone (fb.atR a (.code b :: .inLoop b :: kk)) cs w) fb kk cs e' a' w' := fun e s1 hne hr1 => by
      obtain ⟨e1, a1, w1, hp, harr⟩ := hih rd b s e s1 hr1 F n hF μ a w hrd hst fb (.inLoop b :: kk) cs hro hb hr
      obtain ⟨rfl, hp2⟩ := hp
      refine ⟨_, a1, w1, ⟨rfl, hp2⟩, .pass (x := .inLoop b) rfl (fun _ _ => .inl ?_) harr⟩
      cases e <;> simp_all [exR]
    split at h
    · rename_i s1 hr1
      obtain ⟨e1, a1, w1, ⟨rfl, μ1, hs1, hf1⟩, harr⟩ := hih rd b s _ s1 hr1 F n hF μ a w hrd hst fb (.inLoop b :: kk) cs hro hb hr
      obtain ⟨e2, a2, w2, hp2, harr2⟩ := loopF_sim hih hF k s1 h μ1 a1 w1 (hrd.mono hf1.le) hs1 fb kk cs hro hb hr
      exact ⟨e2, a2, w2, hp2.comp hf1, .of_steps (StepsIn.trans harr (.one (fenced_calm hb hr rfl) stepR_inLoop)) harr2⟩
    · rename_i hne
      cases e with
      | normal => exact absurd h (hne s')
      | exit id => exact fin _ _ (by simp) h
      | goto l => exact fin _ _ (by simp) h
      | ret => exact fin _ _ (by simp) h
theorem evF_sim (hC : Ctx.Ok P C) {ih : Ih} (hih : IhOk P ih) (hdraw : DrawSim P C ih) (hrange : ∀ rd f ps assign body s e s', rangeF C ih rd f ps assign body s = some (e, s') → ∀ (F : Fence) (n : Nat), Wd F → ∀ μ a w, RdR μ rd F → StR μ s a w → (Code.rangeFunc f ps assign body).wpIn F n P (SimPost μ s w e s') a w) (k : Nat) : IhOk P (evF C ih k) := by
  intro rd c s e s' h F n hF μ a w hrd hst
  cases c <;> simp only [evF] at h
  case skip => cases h; exact wpIn_skip ⟨rfl, μ, hst, Fr.refl _ _ _⟩
  case label l => cases h; exact wpIn_label ⟨rfl, μ, hst, Fr.refl _ _ _⟩
  case exit id => cases h; exact wpIn_exit ⟨rfl, μ, hst, Fr.refl _ _ _⟩
  case goto l => cases h; exact wpIn_goto ⟨rfl, μ, hst, Fr.refl _ _ _⟩
  case ret => cases h; exact wpIn_ret ⟨rfl, μ, hst, Fr.refl _ _ _⟩
  case refuse why => cases h
  case scope b => cases h
  case seq x y =>
    refine wpIn_seq ?_
    split at h
    · rename_i s1 h1
      exact wpIn_then (hih rd x s _ s1 h1 F n hF μ a w hrd hst) (fun _ μ1 a1 w1 q1 q2 => wpIn_mono (hih rd y s1 e s' h F n hF μ1 a1 w1 (hrd.mono q2.le) q1) fun _ _ _ hp => hp.comp q2) (fun hne => absurd rfl hne)
    · rename_i hne
      refine wpIn_then (hih rd x s _ s' h F n hF μ a w hrd hst) (fun he => ?_) (fun _ a1 w1 hp => hp)
      subst he; exact absurd h (hne s')
  case cond c x y =>
    split at h
    · rename_i ec
      exact wpIn_cond_true ((opd_sim hst.T ec).bool_inv) (hih rd x s e s' h F n hF μ a w hrd hst)
    · rename_i ec
      exact wpIn_cond_false ((opd_sim hst.T ec).bool_inv) (hih rd y s e s' h F n hF μ a w hrd hst)
    · cases h
  case block id b =>
    refine wpIn_block ?_
    split at h
    · rename_i i s1 h1
      refine wpIn_mono (hih rd b s _ s1 h1 F n hF μ a w hrd hst) ?_
      rintro e' a' w' ⟨rfl, hp⟩
      split at h
      · rename_i hi
        cases h
        simp only [exR, Exit.inBlock, hi, if_true]
        exact ⟨rfl, hp⟩
      · rename_i hi
        cases h
        simp only [exR, Exit.inBlock, hi, if_false]
        exact ⟨rfl, hp⟩
    · rename_i hne
      refine wpIn_mono (hih rd b s _ s' h F n hF μ a w hrd hst) ?_
      rintro e' a' w' ⟨rfl, hp⟩
      cases e with
      | exit i => exact absurd h (hne i s')
      | normal => exact ⟨rfl, hp⟩
      | goto l => exact ⟨rfl, hp⟩
      | ret => exact ⟨rfl, hp⟩
  case loop b =>
    intro fb kk cs hro hb hr
    obtain ⟨e', a', w', hp, harr⟩ := loopF_sim hih hF k s h μ a w hrd hst fb kk cs hro hb hr
    exact ⟨e', a', w', hp, .of_steps (.one (fenced_calm hb hr rfl) stepR_loop) harr⟩
  case region id ops draw =>
    split at h
    · rename_i hd
      subst hd
      split at h
      · rename_i tr htr
        split at h
        · rename_i hok
          split at h
          · rename_i T' H' hlast
            cases h
            refine wpIn_region_draw fun t => ?_
            rw [hC.mixed]
            simp only [Region.schedule, Bool.true_or, if_true]
            refine hdraw ops tr s.T T' s.H H' htr hok hlast F n hF _ μ a { w with drawn := w.drawn + 1 } hst.T (hst.H.same rfl) ?_ t
            intro μ' a' w' q1 q2 q3 q4
            refine ⟨rfl, μ', ⟨q1, ?_, q3⟩, ⟨q4.le, q4.eq, q4.n, q4.os, q4.tape, q4.output, q4.size, q4.keep, q4.ro⟩⟩
            rw [q2]; exact hst.D.mono q4.le
          · cases h
        · cases h
      · cases h
    · rename_i hd
      have hd : draw = false := by simpa using hd
      subst hd
      split at h
      · rename_i T' H' hrun
        cases h
        refine wpIn_region ?_
        have := runE_sim hC hih (ops := ops) (n := n) hF (Q := SimPost μ s w .normal ⟨T', H', s.D⟩) ops.toList 0 s.T s.H μ a w (by simp) hrun hst.T hst.H fun μ' a' w' q1 q2 q3 q4 => ⟨rfl, μ', ⟨q1, by rw [q2]; exact hst.D.mono q4.le, q3⟩, q4⟩
        rw [List.range_eq_range']
        simpa using this
      · cases h
  case rangeFunc f ps assign body => exact hrange rd f ps assign body s e s' h F n hF μ a w hrd hst
end Go.PI
