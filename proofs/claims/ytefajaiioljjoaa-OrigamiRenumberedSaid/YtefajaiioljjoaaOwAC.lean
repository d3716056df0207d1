/- Own work of the verifier: PiPure PiPure2 PiPure3. -/
import Derived.Test.YtefajaiioljjoaaOwAB
import Derived.Laws.StructEq
set_option linter.all false
set_option exponentiation.threshold 3000
set_option linter.deprecated false
namespace Go.PI
variable {P : Program} {C : Ctx} {μ : M}
abbrev RhoR (μ : M) (ρ : Operand → Option AV) (ρ' : Operand → Value) (xs : Array Operand) : Prop := ∀ x ∈ xs, ∀ a, ρ x = some a → VR μ a (ρ' x)
theorem VR.int_inv {k : IntKind} {n : Int} {v : Value} (h : VR μ (.int k n) v) : v = .int k n := by cases h; rfl
theorem VR.bool_inv {b : Bool} {v : Value} (h : VR μ (.bool b) v) : v = .bool b := by cases h; rfl
theorem VR.str_inv {b : ByteArray} {v : Value} (h : VR μ (.str b) v) : v = .string b := by cases h; rfl
theorem VR.nilp_inv {v : Value} (h : VR μ .nilp v) : v = .pointer none := by cases h; rfl
theorem VR.nils_inv {v : Value} (h : VR μ .nils v) : v = .slice none 0 0 := by cases h; rfl
theorem VR.nili_inv {v : Value} (h : VR μ .nili v) : v = .nilIface := by cases h; rfl
theorem VR.ptr_inv {b o : Nat} {v : Value} (h : VR μ (.ptr b o) v) : ∃ bi, μ b = some bi ∧ v = .pointer (some ⟨bi.c, bi.base + o, none⟩) := by cases h; exact ⟨_, ‹_›, rfl⟩
theorem VR.sl_inv {b o l c : Nat} {v : Value} (h : VR μ (.sl b o l c) v) : ∃ bi, μ b = some bi ∧ v = .slice (some ⟨bi.c, bi.base + o, none⟩) l c := by cases h; exact ⟨_, ‹_›, rfl⟩
theorem VR.slu_inv {b o l e : Nat} {v : Value} (h : VR μ (.slu b o l e) v) : ∃ a c, v = .slice (some a) l c ∧ l ≤ c ∧ ∃ bi, μ b = some bi ∧ ((l = 0 ∧ c = 0) ∨ (o + c * e ≤ bi.top ∧ a = ⟨bi.c, bi.base + o, none⟩)) ∧ c ≤ maxLen := by
  cases h with
  | slu h hc hl hm => exact ⟨_, _, rfl, hl, _, h, .inr ⟨hc, rfl⟩, hm⟩
  | sluz h => exact ⟨_, _, rfl, Nat.le_refl _, _, h, .inl ⟨rfl, rfl⟩, Nat.zero_le _⟩
theorem VR.sle_inv {v : Value} (h : VR μ .sle v) : ∃ a c, v = .slice (some a) 0 c := by cases h; exact ⟨_, _, rfl⟩
theorem VR.agg_inv {as : List AV} {v : Value} (h : VR μ (.agg as) v) : ∃ xs, v = .agg xs ∧ VRs μ as xs.toList := by cases h; exact ⟨_, rfl, ‹_›⟩
theorem VR.tup_inv {as : List AV} {v : Value} (h : VR μ (.tup as) v) : ∃ xs, v = .tuple xs ∧ VRs μ as xs.toList := by cases h; exact ⟨_, rfl, ‹_›⟩
theorem VR.fn_inv {f : Nat} {as bs : List AV} {v : Value} (h : VR μ (.fn f as bs) v) : ∃ xs ys, v = .func (.func f) xs ys ∧ VRs μ as xs.toList ∧ VRs μ bs ys.toList := by cases h; exact ⟨_, _, rfl, ‹_›, ‹_›⟩
theorem VR.yld_inv {l : Nat} {v : Value} (h : VR μ (.yld l) v) : ∃ bi, μ l = some bi ∧ v = .func (.yield bi.c) #[] #[] := by cases h; exact ⟨_, ‹_›, rfl⟩
theorem VR.ifc_inv {t : TypeId} {a : AV} {v : Value} (h : VR μ (.ifc t a) v) : ∃ u, v = .iface t u := by cases h; exact ⟨_, rfl⟩
theorem add_same {c o : Nat} (n : Nat) : (⟨c, o, none⟩ : Addr).add n = ⟨c, o + n, none⟩ := by unfold Addr.add; split <;> simp_all
theorem eqv_sim {op : BinOp} {t : TypeId} {x y : Value} {r : Bool} {v : AV} (h : eqOp op r = some v) (hbin : binOp .eql t x y = (do pure (.bool (← Op.equal t x y))) ∧ binOp .neq t x y = (do pure (.bool (!(← Op.equal t x y))))) (w : World) (he : (Op.equal t x y).run P w = .ok r w) :
    ∃ u, (binOp op t x y).run P w = .ok u w ∧ VR μ v u := by
  cases op <;> simp only [eqOp] at h <;> first | (cases h; done) | skip
  · cases h; exact ⟨_, by rw [hbin.1]; simp [he], .bool _⟩
  · cases h; exact ⟨_, by rw [hbin.2]; simp [he], .bool _⟩
def GuardOk (t : TypeId) (x y : Operand) (a b : Value) : Prop := ∀ (P : Program) (op : BinOp) (w : World), (eqGuard op t x y a b).run P w = .ok () w
theorem guard_of {t : TypeId} {x y : Operand} {a b : Value} (h : ∀ c, a ≠ .agg c) (h2 : a ≠ .nilIface) : GuardOk t x y a b := by
  intro P op w
  unfold eqGuard
  cases a <;> first | (exact absurd rfl h2) | (exact absurd rfl (h _)) | skip
  all_goals (cases op <;> rfl)
theorem guard_of2 {t : TypeId} {x y : Operand} {b : Value} (h : b ≠ .nilIface) : GuardOk t x y .nilIface b := by
  intro P op w
  unfold eqGuard
  cases b <;> first | (exact absurd rfl h) | skip
  all_goals (cases op <;> rfl)
theorem guard_nil {t : TypeId} {x y : Operand} (h : (isConstOp x || isConstOp y) = true) : GuardOk t x y .nilIface .nilIface := by
  intro P op w
  unfold eqGuard
  cases x <;> cases y <;> first | (simp [isConstOp] at h; done) | (cases op <;> rfl)
theorem int_sim {op : BinOp} {t : TypeId} {k : IntKind} {m n : Int} {v : AV} (h : intBin op k m n = some v) (w : World) :
    ∃ u, (binOp op t (.int k m) (.int k n)).run P w = .ok u w ∧ VR μ v u := by
  cases op <;> simp only [intBin] at h
  case add => cases h; exact ⟨_, by simp [binOp, Op.intArith], .int _ _⟩
  case sub => cases h; exact ⟨_, by simp [binOp, Op.intArith], .int _ _⟩
  case mul => cases h; exact ⟨_, by simp [binOp, Op.intArith], .int _ _⟩
  case quo =>
    split at h
    · cases h
    · rename_i hn; cases h; exact ⟨_, by simp [binOp, Op.intDiv, hn], .int _ _⟩
  case rem =>
    split at h
    · cases h
    · rename_i hn; cases h; exact ⟨_, by simp [binOp, Op.intDiv, hn], .int _ _⟩
  case eql => cases h; exact ⟨_, by simp [binOp, Op.intCmp], .bool _⟩
  case neq => cases h; exact ⟨_, by simp [binOp, Op.intCmp], .bool _⟩
  case lss => cases h; exact ⟨_, by simp [binOp, Op.intCmp], .bool _⟩
  case leq => cases h; exact ⟨_, by simp [binOp, Op.intCmp], .bool _⟩
  case gtr => cases h; exact ⟨_, by simp [binOp, Op.intCmp], .bool _⟩
  case geq => cases h; exact ⟨_, by simp [binOp, Op.intCmp], .bool _⟩
  case and => cases h; exact ⟨_, by simp only [binOp, Op.intBits]; rw [if_neg (fun h => h rfl)]; rfl, .int _ _⟩
  case or => cases h; exact ⟨_, by simp only [binOp, Op.intBits]; rw [if_neg (fun h => h rfl)]; rfl, .int _ _⟩
  case xor => cases h; exact ⟨_, by simp only [binOp, Op.intBits]; rw [if_neg (fun h => h rfl)]; rfl, .int _ _⟩
  case andNot => cases h; exact ⟨_, by simp only [binOp, Op.intBits]; rw [if_neg (fun h => h rfl)]; rfl, .int _ _⟩
  all_goals cases h
theorem shift_sim {op : BinOp} {t : TypeId} {k k' : IntKind} {m n : Int} {v : AV} (h : shiftE op k m n = some v) (w : World) :
    ∃ u, (binOp op t (.int k m) (.int k' n)).run P w = .ok u w ∧ VR μ v u := by
  unfold shiftE at h
  split at h
  · cases h
  · rename_i hn
    cases op <;> simp only at h
    case shl => cases h; exact ⟨_, by simp [binOp, Op.shift, hn], .int _ _⟩
    case shr => cases h; exact ⟨_, by simp [binOp, Op.shift, hn], .int _ _⟩
    all_goals cases h
theorem str_sim {op : BinOp} {t : TypeId} {m n : ByteArray} {v : AV} (h : strBin op m n = some v) (w : World) :
    ∃ u, (binOp op t (.string m) (.string n)).run P w = .ok u w ∧ VR μ v u := by
  cases op <;> simp only [strBin] at h
  case add =>
    split at h
    · rename_i hl
      cases h
      refine ⟨_, ?_, .str _⟩
      simp only [binOp, Op.stringOp]
      rw [if_neg (by simp [IntKind.max, IntKind.signed, IntKind.bits]; omega)]; rfl
    · cases h
  case eql => cases h; exact ⟨_, by simp [binOp, Op.stringOp], .bool _⟩
  case neq => cases h; exact ⟨_, by simp [binOp, Op.stringOp], .bool _⟩
  all_goals cases h
theorem ptrs_eq {t e : TypeId} {tj : TypeInfo} {c k o o' : Nat} (h1 : P.underlying t = some (.pointer e)) (h2 : P.info? e = some tj) (hs : tj.size ≠ 0) (w : World) (n : Nat) :
    (Op.equalIn (n + 1) t (.pointer (some ⟨c, k + o, none⟩)) (.pointer (some ⟨c, k + o', none⟩))).run P w = .ok (o == o') w := by
  simp only [Op.equalIn, Sem.run_bind, run_und h1, Result.andThen_ok, run_size h2]
  rw [if_pos hs]
  simp only [sameAddr, beq_self_eq_true, if_true, Sem.run_pure]
  congr 1
  rw [Bool.eq_iff_iff]; simp
theorem eqIf_sim (hC : Ctx.Ok P C) {k : EqK} {op : BinOp} {t : TypeId} {x y : Operand} {r : Bool} {v : AV} {a b : Value} (h : eqIf C k op t r = some v) (w : World) (hg : GuardOk t x y a b)
    (hbin : binOp .eql t a b = (do pure (.bool (← Op.equal t a b))) ∧ binOp .neq t a b = (do pure (.bool (!(← Op.equal t a b)))))
    (he : ∀ d n, P.underlying t = some d → k.fits d = true → (Op.equalIn (n + 1) t a b).run P w = .ok r w) :
    ∃ u, (do eqGuard op t x y a b; binOp op t a b : Sem Value).run P w = .ok u w ∧ VR μ v u := by
  unfold eqIf at h
  split at h
  · rename_i i hi
    obtain ⟨ti, z, h1, -⟩ := hC.got hi
    split at h
    · rename_i hf
      simp only [Sem.run_bind, hg P op w, Result.andThen_ok]
      exact eqv_sim h hbin w (he _ 9999 h1 hf)
    · cases h
  · cases h
theorem fields_sim (hC : Ctx.Ok P C) {xs ys : Array Value} {as bs : List AV} (ha : VRs μ as xs.toList) (hb : VRs μ bs ys.toList) (d : Nat) (w : World) : ∀ {fs : List Field} {o : Nat} {r : Bool},
    intFs C fs o = true → fs.all (fun f => f.name != "_") = true → eqInts (as.drop o) (bs.drop o) = some r → (as.drop o).length = fs.length → (Op.eqFields (d + 1) xs ys fs).run P w = .ok r w
  | [], o, r, _, _, h, hl => by
    have e : as.drop o = [] := List.eq_nil_of_length_eq_zero hl
    rw [e] at h
    cases hbs : bs.drop o with
    | nil => rw [hbs] at h; simp only [eqInts, Option.some.injEq] at h; subst h; simp [Op.eqFields]
    | cons b bs => rw [hbs] at h; simp [eqInts] at h
  | f :: fs, o, r, hf, hn, h, hl => by
    simp only [intFs, Bool.and_eq_true] at hf
    obtain ⟨⟨h1, h2⟩, h3⟩ := hf
    have h2 := Nat.eq_of_beq_eq_true h2
    simp only [List.all_cons, Bool.and_eq_true] at hn
    cases has : as.drop o with
    | nil => rw [has] at hl; simp at hl
    | cons a as' =>
      cases hbs : bs.drop o with
      | nil => rw [has, hbs] at h; cases a <;> simp [eqInts] at h
      | cons b bs' =>
        rw [has, hbs] at h
        have ga : as[o]? = some a := by
          have := congrArg (fun l : List AV => l[0]?) has
          simpa using this
        have gb : bs[o]? = some b := by
          have := congrArg (fun l : List AV => l[0]?) hbs
          simpa using this
        have da : as.drop (o + 1) = as' := by rw [← List.drop_drop, has]; rfl
        have db : bs.drop (o + 1) = bs' := by rw [← List.drop_drop, hbs]; rfl
        unfold eqInts at h
        split at h
        · cases ‹_ :: _ = []›
        · rename_i k m as2 k' n bs2 e1 e2
          cases e1; cases e2
          split at h
          · rename_i hk
            subst hk
            split at h
            · rename_i r2 hr2
              cases h
              split at h1
              · rename_i i hi
                split at h1
                · rename_i kd hd
                  obtain ⟨ti, z, u1, -⟩ := hC.got hi
                  rw [hd] at u1
                  have pa : ∃ u, (part f.type xs f.offset).run P w = .ok u w ∧ VR μ (.int k m) u := part_sim hC (by unfold partE; rw [hi]; simp only [hd]; rw [h2]; exact ga) ha w
                  have pb : ∃ u, (part f.type ys f.offset).run P w = .ok u w ∧ VR μ (.int k n) u := part_sim hC (by unfold partE; rw [hi]; simp only [hd]; rw [h2]; exact gb) hb w
                  obtain ⟨u, pa, va⟩ := pa
                  obtain ⟨v, pb, vb⟩ := pb
                  have := va.int_inv; subst this
                  have := vb.int_inv; subst this
                  have ih := fields_sim hC ha hb d w (fs := fs) (o := o + 1) (r := r2) h3 hn.2 (by rw [da, db]; exact hr2) (by rw [da]; rw [has] at hl; simpa using hl)
                  have hnm : f.name ≠ "_" := by simpa using hn.1
                  simp only [Op.eqFields, if_pos hnm, Sem.run_bind, pa, pb, Result.andThen_ok, run_equalIn_int w d f.type k kd m n u1]
                  by_cases hmn : m = n
                  · subst hmn
                    simp [ih]
                  · have : (m == n) = false := by simpa using hmn
                    simp [this]
                · cases h1
              · cases h1
            · cases h
          · cases h
        · cases h
theorem str_eq_sim (hC : Ctx.Ok P C) {op : BinOp} {t : TypeId} {x y : Operand} {as bs : List AV} {v : AV} {xs ys : Array Value} (h : eqStr C op t as bs = some v) (ha : VRs μ as xs.toList) (hb : VRs μ bs ys.toList) (w : World) :
    ∃ u, (do eqGuard op t x y (.agg xs) (.agg ys); binOp op t (.agg xs) (.agg ys) : Sem Value).run P w = .ok u w ∧ VR μ v u := by
  unfold eqStr at h
  split at h
  · rename_i hok
    split at h
    · rename_i r hr
      unfold eqOk at hok
      simp only [Bool.and_eq_true] at hok
      obtain ⟨g1, g2, g3⟩ := hC.eqs t hok.1
      have hok2 := hok.2
      split at hok2
      · rename_i i hi
        split at hok2
        · rename_i fs hd
          simp only [Bool.and_eq_true] at hok2
          obtain ⟨q1, q2⟩ := hok2
          have q2 := Nat.eq_of_beq_eq_true q2
          obtain ⟨ti, z, u1, -⟩ := hC.got hi
          rw [hd] at u1
          have hfo : P.fieldsOf t = fs := by unfold Program.fieldsOf; rw [u1]
          rw [hfo] at g3
          have hf := fields_sim hC ha hb 9998 w (fs := fs.toList) (o := 0) q1 g3 (by simpa using hr) (by simpa using q2.symm)
          have he : (Op.equal t (.agg xs) (.agg ys)).run P w = .ok r w := by
            unfold Op.equal Op.maxDepth
            rw [run_equalIn_struct w 9999 t xs ys (by rw [hfo]; exact u1) g1, hfo]
            exact hf
          simp only [Sem.run_bind, run_eqGuard_agg w op t x y xs ys g2, Result.andThen_ok]
          exact eqv_sim h ⟨rfl, rfl⟩ w he
        · cases hok2
      · cases hok2
    · cases h
  · cases h
theorem bin_sim (hC : Ctx.Ok P C) {op : BinOp} {t : TypeId} {x y : Operand} {a b v : AV} {a' b' : Value} (h : binE C op t x y a b = some v) (ha : VR μ a a') (hb : VR μ b b') (w : World) :
    ∃ u, (do eqGuard op t x y a' b'; binOp op t a' b' : Sem Value).run P w = .ok u w ∧ VR μ v u := by
  cases ha <;> simp only [binE] at h
  case int k m =>
    split at h
    · have := hb.int_inv; subst this
      simp only [Sem.run_bind, guard_of (x := x) (y := y) (t := t) (a := .int k m) (by simp) (by simp) P op w, Result.andThen_ok]
      split at h
      · exact shift_sim h w
      · split at h
        · rename_i hk; subst hk; exact int_sim h w
        · cases h
    · cases h
  case str s =>
    split at h
    · have := hb.str_inv; subst this
      simp only [Sem.run_bind, guard_of (x := x) (y := y) (t := t) (a := .string s) (by simp) (by simp) P op w, Result.andThen_ok]
      exact str_sim h w
    · cases h
  case bool p =>
    split at h
    · have := hb.bool_inv; subst this
      exact eqIf_sim hC h w (guard_of (by simp) (by simp)) ⟨rfl, rfl⟩ fun d n h1 hf => by cases d <;> simp [EqK.fits] at hf; simp [Op.equalIn, run_und h1]
    · cases h
  case nilp =>
    split at h
    · have := hb.nilp_inv; subst this
      exact eqIf_sim hC h w (guard_of (by simp) (by simp)) ⟨rfl, rfl⟩ fun d n h1 hf => by cases d <;> simp [EqK.fits] at hf; simp [Op.equalIn, run_und h1]
    · obtain ⟨bi, -, rfl⟩ := hb.ptr_inv
      exact eqIf_sim hC h w (guard_of (by simp) (by simp)) ⟨rfl, rfl⟩ fun d n h1 hf => by cases d <;> simp [EqK.fits] at hf; simp [Op.equalIn, run_und h1]
    · cases h
  case agg as xs hxs =>
    split at h
    · obtain ⟨ys, rfl, hys⟩ := hb.agg_inv
      exact str_eq_sim hC h hxs hys w
    · cases h
  case ptr bi hbi =>
    split at h
    · have := hb.nilp_inv; subst this
      exact eqIf_sim hC h w (guard_of (by simp) (by simp)) ⟨rfl, rfl⟩ fun d n h1 hf => by cases d <;> simp [EqK.fits] at hf; simp [Op.equalIn, run_und h1]
    · obtain ⟨bj, hbj, rfl⟩ := hb.ptr_inv
      unfold eqPtrs at h
      split at h
      · rename_i i hi
        obtain ⟨ti, z, h1, -⟩ := hC.got hi
        split at h
        · rename_i e hd
          rw [hd] at h1
          split at h
          · rename_i ei he
            obtain ⟨tj, z', -, h2, h3, -⟩ := hC.got he
            split at h
            · rename_i hc
              obtain ⟨hs, rfl⟩ := hc
              rw [hbi] at hbj; cases hbj
              simp only [Sem.run_bind, guard_of (x := x) (y := y) (t := t) (a := .pointer _) (by simp) (by simp) P op w, Result.andThen_ok]
              exact eqv_sim h ⟨rfl, rfl⟩ w (ptrs_eq h1 h2 (by rw [h3]; exact hs) w 9999)
            · cases h
          · cases h
        · cases h
      · cases h
    · cases h
  case nils =>
    split at h
    · have := hb.nils_inv; subst this
      exact eqIf_sim hC h w (guard_of (by simp) (by simp)) ⟨rfl, rfl⟩ fun d n h1 hf => by cases d <;> simp [EqK.fits] at hf; simp [Op.equalIn, run_und h1]
    · obtain ⟨bi, -, rfl⟩ := hb.sl_inv
      exact eqIf_sim hC h w (guard_of (by simp) (by simp)) ⟨rfl, rfl⟩ fun d n h1 hf => by cases d <;> simp [EqK.fits] at hf; simp [Op.equalIn, run_und h1]
    · obtain ⟨a0, c, rfl, -⟩ := hb.slu_inv
      exact eqIf_sim hC h w (guard_of (by simp) (by simp)) ⟨rfl, rfl⟩ fun d n h1 hf => by cases d <;> simp [EqK.fits] at hf; simp [Op.equalIn, run_und h1]
    · obtain ⟨a0, c, rfl⟩ := hb.sle_inv
      exact eqIf_sim hC h w (guard_of (by simp) (by simp)) ⟨rfl, rfl⟩ fun d n h1 hf => by cases d <;> simp [EqK.fits] at hf; simp [Op.equalIn, run_und h1]
    · cases h
  case sle =>
    split at h
    · have := hb.nils_inv; subst this
      exact eqIf_sim hC h w (guard_of (by simp) (by simp)) ⟨rfl, rfl⟩ fun d n h1 hf => by cases d <;> simp [EqK.fits] at hf; simp [Op.equalIn, run_und h1]
    · cases h
  case sl =>
    split at h
    · have := hb.nils_inv; subst this
      exact eqIf_sim hC h w (guard_of (by simp) (by simp)) ⟨rfl, rfl⟩ fun d n h1 hf => by cases d <;> simp [EqK.fits] at hf; simp [Op.equalIn, run_und h1]
    · cases h
  case slu =>
    split at h
    · have := hb.nils_inv; subst this
      exact eqIf_sim hC h w (guard_of (by simp) (by simp)) ⟨rfl, rfl⟩ fun d n h1 hf => by cases d <;> simp [EqK.fits] at hf; simp [Op.equalIn, run_und h1]
    · cases h
  case sluz =>
    split at h
    · have := hb.nils_inv; subst this
      exact eqIf_sim hC h w (guard_of (by simp) (by simp)) ⟨rfl, rfl⟩ fun d n h1 hf => by cases d <;> simp [EqK.fits] at hf; simp [Op.equalIn, run_und h1]
    · cases h
  case nili =>
    split at h
    · have := hb.nili_inv; subst this
      split at h
      · rename_i hc
        exact eqIf_sim hC h w (guard_nil hc) ⟨rfl, rfl⟩ fun d n h1 hf => by cases d <;> simp [EqK.fits] at hf; simp [Op.equalIn, run_und h1]
      · cases h
    · obtain ⟨u, rfl⟩ := hb.ifc_inv
      exact eqIf_sim hC h w (guard_of2 (by simp)) ⟨rfl, rfl⟩ fun d n h1 hf => by cases d <;> simp [EqK.fits] at hf; simp [Op.equalIn, run_und h1]
    · cases h
  case ifc =>
    split at h
    · have := hb.nili_inv; subst this
      exact eqIf_sim hC h w (guard_of (by simp) (by simp)) ⟨rfl, rfl⟩ fun d n h1 hf => by cases d <;> simp [EqK.fits] at hf; simp [Op.equalIn, run_und h1]
    · cases h
  all_goals (cases h)
end Go.PI
namespace Go.PI
variable {P : Program} {C : Ctx} {μ : M}
theorem bound_sim {x : Option AV} {y n : Nat} {v : Value} (h : bound x y = some n) (hv : ∀ a, x = some a → VR μ a v) (code : BoundsCode) (w : World) : (Instr.sliceBound v y code).run P w = .ok n w ∧ n ≤ y := by
  unfold bound at h
  split at h
  · rename_i k i
    have := (hv _ rfl).int_inv; subst this
    split at h
    · rename_i hc
      cases h
      exact ⟨by simp [Instr.sliceBound, asIntOf, hc], by omega⟩
    · cases h
  · cases h
theorem bounds_sim {ρ : Operand → Option AV} {ρ' : Operand → Value} {lo hi : Option Operand} {isSlice : Bool} {len cap hmax h l : Nat} (hm : hmax ≤ cap)
    (hh : (match hi with | some x => bound (ρ x) hmax | none => some len) = some h) (hl : (match lo with | some x => bound (ρ x) h | none => some 0) = some l)
    (hr : ∀ x ∈ lo.toList ++ hi.toList, ∀ a, ρ x = some a → VR μ a (ρ' x)) (w : World) :
    (Instr.sliceBounds isSlice len cap (lo.map ρ') (hi.map ρ') none).run P w = .ok (l, h, cap) w := by
  have e1 : ∀ code, (match (hi.map ρ' : Option Value) with | some v => Instr.sliceBound v cap code | none => pure len).run P w = .ok h w := fun code => by
    cases hi with
    | none => simp at hh; subst hh; rfl
    | some x =>
      simp only [Option.map_some]
      have hx := hr x (by simp)
      simp only at hh
      unfold bound at hh
      split at hh
      · rename_i k i hk
        have := (hx _ hk).int_inv
        rw [this]
        split at hh
        · rename_i hc
          cases hh
          have hc' : 0 ≤ i ∧ i ≤ (cap : Int) := ⟨hc.1, by omega⟩
          simp [Instr.sliceBound, asIntOf, hc']
        · cases hh
      · cases hh
  have e2 : ∀ code, (match (lo.map ρ' : Option Value) with | some v => Instr.sliceBound v h code | none => pure 0).run P w = .ok l w := fun code => by
    cases lo with
    | none => simp at hl; subst hl; rfl
    | some x =>
      simp only [Option.map_some]
      exact (bound_sim hl (fun a ha => hr x (by simp) a ha) code w).1
  unfold Instr.sliceBounds
  simp only [Sem.run_bind, Sem.run_pure, Result.andThen_ok]
  cases hi with
  | none =>
    simp only [Option.map_none, Sem.run_pure] at e1 ⊢
    have e2 := e2 .sliceB
    simp at hh; subst hh
    cases lo with
    | none => simpa using e2
    | some x => simp only [Option.map_some] at e2 ⊢; simp [e2]
  | some y =>
    have e1 := e1 (if isSlice = true then .sliceAcap else .sliceAlen)
    have e2 := e2 .sliceB
    simp only [Option.map_some] at e1 ⊢
    simp only [Sem.run_bind, e1, Result.andThen_ok]
    cases lo with
    | none => simp at e2 ⊢; exact e2
    | some x => simp only [Option.map_some] at e2 ⊢; simp [e2]
theorem foldMinMax_sim {P : Program} {μ : M} {mx : Bool} : ∀ {as : List AV} {a v : AV} {vs : List Value} {u : Value}, foldMinMax mx a as = some v → VR μ a u → VRs μ as vs → (∃ k n, a = .int k n) → ∀ w,
    ∃ r, (vs.foldlM (if mx then Builtin.max2 else Builtin.min2) u).run P w = .ok r w ∧ VR μ v r
  | [], a, v, vs, u, h, ha, hs, hk, w => by
    cases hs; obtain ⟨k, n, rfl⟩ := hk
    simp [foldMinMax] at h; subst h; exact ⟨u, rfl, ha⟩
  | b :: as, a, v, vs, u, h, ha, hs, hk, w => by
    obtain ⟨k, n, rfl⟩ := hk
    cases hs with
    | cons hb hs =>
      unfold foldMinMax at h
      split at h
      · rename_i h1 h2; cases h2
      · rename_i h1 h2
        cases h1; cases h2
        cases ha; cases hb
        split at h
        · rename_i hkk; subst hkk
          obtain ⟨r, hr, hv⟩ := foldMinMax_sim h (.int _ _) hs ⟨_, _, rfl⟩ w
          refine ⟨r, ?_, hv⟩
          cases mx
          · simpa [List.foldlM, Builtin.min2] using hr
          · simpa [List.foldlM, Builtin.max2] using hr
        · cases h
      · cases h
theorem partsE_sim {ρ : Operand → Option AV} {ρ' : Operand → Value} : ∀ {xs : List (Nat × Operand)} {as : List (Nat × AV)}, partsE ρ xs = some as → (∀ p ∈ xs, ∀ a, ρ p.2 = some a → VR μ a (ρ' p.2)) →
    All2 (fun (p : Nat × AV) (q : Nat × Value) => p.1 = q.1 ∧ VR μ p.2 q.2) as (xs.map fun (i, x) => (i, ρ' x))
  | [], as, h, _ => by simp [partsE] at h; subst h; exact .nil
  | (i, x) :: xs, as, h, hr => by
    unfold partsE at h
    split at h
    · rename_i a as' h1 h2
      cases h
      exact .cons ⟨rfl, hr (i, x) (by simp) a h1⟩ (partsE_sim h2 fun y hy => hr y (by simp [hy]))
    · cases h
theorem splice_eq (cs vs : List Value) (off : Nat) (h : off + vs.length ≤ cs.length) :
    vs.zipIdx.foldl (fun (c : Array Value) (p : Value × Nat) => c.setIfInBounds (off + p.2) p.1) cs.toArray = (cs.take off ++ vs ++ cs.drop (off + vs.length)).toArray := by
  have key : ∀ (vs : List Value) (k : Nat) (cs : List Value), off + k + vs.length ≤ cs.length → (vs.zipIdx k).foldl (fun (c : Array Value) (p : Value × Nat) => c.setIfInBounds (off + p.2) p.1) cs.toArray = (cs.take (off + k) ++ vs ++ cs.drop (off + k + vs.length)).toArray := by
    intro vs
    induction vs with
    | nil => intro k cs _; simp
    | cons v vs ih =>
      intro k cs hl
      simp only [List.zipIdx_cons, List.foldl_cons, List.setIfInBounds_toArray]
      rw [ih (k + 1) (cs.set (off + k) v) (by simp at hl ⊢; omega)]
      congr 1
      have h1 : (cs.set (off + k) v).take (off + (k + 1)) = cs.take (off + k) ++ [v] := by
        rw [← Nat.add_assoc, List.take_succ_eq_append_getElem (by simp at hl ⊢; omega), List.take_set, List.getElem_set_self]
        congr 1
        apply List.ext_getElem?
        intro i
        simp only [List.getElem?_take, List.getElem?_set]
        by_cases hi : i < off + k
        · rw [if_neg (by omega)]
        · split
          · rw [if_neg (by simp; omega)]
          · rfl
      have h2 : (cs.set (off + k) v).drop (off + (k + 1) + vs.length) = cs.drop (off + k + (v :: vs).length) := by
        rw [List.drop_set_of_lt (by omega)]; congr 1; simp; omega
      rw [h1, h2]; simp
  have := key vs 0 cs (by simpa using h)
  simpa using this
theorem VRs.splice {cs vs : List AV} {xs ys : List Value} (h : VRs μ cs xs) (k : VRs μ vs ys) (off : Nat) : VRs μ (splice cs off vs) (xs.take off ++ ys ++ xs.drop (off + ys.length)) := by
  unfold PI.splice
  have := k.length
  rw [this]
  exact ((h.take off).append k).append (h.drop _)
theorem fill_sim {place : Nat → Option (Nat × Nat)} {place' : Nat → Option (Nat × Nat)} (hp : ∀ i p, place i = some p → place' i = some p) : ∀ {ps : List (Nat × AV)} {qs : List (Nat × Value)} {cells cs : List AV} {xs : List Value},
    fillE place cells ps = some cs → All2 (fun (p : Nat × AV) (q : Nat × Value) => p.1 = q.1 ∧ VR μ p.2 q.2) ps qs → VRs μ cells xs →
    ∃ ys : List Value, Instr.fill place' xs.toArray qs = some ys.toArray ∧ VRs μ cs ys
  | [], qs, cells, cs, xs, h, hq, hx => by
    cases hq; simp [fillE] at h; subst h; exact ⟨xs, by simp [Instr.fill], hx⟩
  | (i, v) :: ps, qs, cells, cs, xs, h, hq, hx => by
    cases hq with
    | @cons _ q _ qs hv hq =>
      obtain ⟨j, u⟩ := q
      obtain ⟨h1, h2⟩ := hv
      simp only at h1 h2; subst h1
      unfold fillE at h
      split at h
      · cases h
      · rename_i off size hpl
        split at h
        · cases h
        · rename_i hc
          have hlen := h2.cells.length
          have hxl := hx.length
          have hvc : u.cells.size = size := by rw [← Array.length_toList, ← hlen]; omega
          obtain ⟨ys, hy, hys⟩ := fill_sim hp h hq (hx.splice h2.cells off)
          refine ⟨ys, ?_, hys⟩
          unfold Instr.fill
          rw [hp _ _ hpl]
          simp only
          rw [if_neg (by simp [hvc]; omega)]
          have := splice_eq xs u.cells.toList off (by simp [hvc]; omega)
          rw [← hy, ← this]
          congr 1
          rw [← Array.foldl_toList]
          simp [Array.toList_zipIdx]
end Go.PI
namespace Go.PI
variable {P : Program} {C : Ctx} {μ : M}
theorem sliceData_some (ts : Array TypeId) (ty : TypeId) (a : Addr) (l c : Nat) (h : c ≠ 0) (w : World) : (Builtin.unsafeSliceData_ ts ty ⟨[.slice (some a) l c]⟩).run P w = .ok (.pointer (some a)) w := by
  show (if c ≠ 0 then _ else _ : Sem Value).run P w = _
  rw [if_pos h]; rfl
theorem builtinP_sim (hC : Ctx.Ok P C) {b : Builtin} {ts : Array TypeId} {as : List AV} {v : AV} {vs : Array Value} (h : builtinP C b ts.toList as = some v) (ha : VRs μ as vs.toList) (ty : TypeId) (consts : Array Bool) (w : World) :
    ∃ u, (Go.builtin b ts ty consts vs).run P w = .ok (.value u) w ∧ VR μ v u := by
  unfold builtinP at h
  split at h
  · -- len
    rename_i t r x r' e1
    obtain ⟨tl⟩ := ts; simp only at e1; subst e1
    obtain ⟨vl⟩ := vs; simp only at ha
    cases ha with
    | @cons _ y _ ys hx hr =>
      split at h
      · rename_i i hi
        obtain ⟨ti, z, h1, -⟩ := hC.got hi
        have := hx.str_inv; subst this
        cases h
        exact ⟨_, by simp [Go.builtin, Builtin.len_, run_und h1, goInt], .int _ _⟩
      · rename_i i hi
        obtain ⟨ti, z, h1, -⟩ := hC.got hi
        have := hx.nils_inv; subst this
        cases h
        exact ⟨_, by simp [Go.builtin, Builtin.len_, run_und h1, goInt], .int _ _⟩
      · rename_i i hi
        obtain ⟨ti, z, h1, -⟩ := hC.got hi
        obtain ⟨a, c, rfl⟩ := hx.sle_inv
        cases h
        exact ⟨_, by simp [Go.builtin, Builtin.len_, run_und h1, goInt], .int _ _⟩
      · rename_i i hi
        obtain ⟨ti, z, h1, -⟩ := hC.got hi
        obtain ⟨bi, -, rfl⟩ := hx.sl_inv
        cases h
        exact ⟨_, by simp [Go.builtin, Builtin.len_, run_und h1, goInt], .int _ _⟩
      · rename_i i hi
        obtain ⟨ti, z, h1, -⟩ := hC.got hi
        obtain ⟨a0, c, rfl, -⟩ := hx.slu_inv
        cases h
        exact ⟨_, by simp [Go.builtin, Builtin.len_, run_und h1, goInt], .int _ _⟩
      · rename_i i hi
        obtain ⟨ti, z, h1, -⟩ := hC.got hi
        cases h
        exact ⟨_, by simp [Go.builtin, Builtin.len_, run_und h1, goInt], .int _ _⟩
      · cases h
  · -- cap
    rename_i t r x r' e1
    obtain ⟨tl⟩ := ts; simp only at e1; subst e1
    obtain ⟨vl⟩ := vs; simp only at ha
    cases ha with
    | @cons _ y _ ys hx hr =>
      split at h
      · rename_i i hi
        obtain ⟨ti, z, h1, -⟩ := hC.got hi
        have := hx.nils_inv; subst this
        cases h
        exact ⟨_, by simp [Go.builtin, Builtin.cap_, run_und h1, goInt], .int _ _⟩
      · rename_i i hi
        obtain ⟨ti, z, h1, -⟩ := hC.got hi
        obtain ⟨bi, -, rfl⟩ := hx.sl_inv
        cases h
        exact ⟨_, by simp [Go.builtin, Builtin.cap_, run_und h1, goInt], .int _ _⟩
      · cases h
  · -- the data of a slice
    rename_i x
    obtain ⟨vl⟩ := vs; simp only at ha
    cases ha with
    | @cons _ y _ ys hx hr =>
      cases hr
      split at h
      · have := hx.nils_inv; subst this
        cases h
        exact ⟨_, by simp only [Go.builtin, Sem.run_bind]; rw [show (Builtin.unsafeSliceData_ ts ty ⟨[.slice none 0 0]⟩).run P w = .ok (.pointer none) w from rfl]; rfl, .nilp⟩
      · obtain ⟨bi, hb, rfl⟩ := hx.sl_inv
        split at h
        · cases h
        · rename_i hc
          cases h
          exact ⟨_, by simp only [Go.builtin, Sem.run_bind]; rw [sliceData_some _ _ _ _ _ hc]; rfl, .ptr hb⟩
      · obtain ⟨a0, c, rfl, hl, hq⟩ := hx.slu_inv
        split at h
        · cases h
        · rename_i hc
          cases h
          obtain ⟨bi, hb, ⟨q1, -⟩ | ⟨-, rfl⟩⟩ := hq
          · exact absurd q1 hc
          exact ⟨_, by simp only [Go.builtin, Sem.run_bind]; rw [sliceData_some _ _ _ _ _ (show c ≠ 0 by omega)]; rfl, .ptr hb⟩
      · cases h
  · -- min
    rename_i x xs
    obtain ⟨vl⟩ := vs; simp only at ha
    cases ha with
    | @cons _ y _ ys hx hr =>
      split at h
      · rename_i k n
        obtain ⟨r, hr', hv⟩ := foldMinMax_sim (P := P) h hx hr ⟨_, _, rfl⟩ w
        exact ⟨r, by simp at hr'; simp [Go.builtin, Builtin.min_, hr'], hv⟩
      · cases h
  · -- max
    rename_i x xs
    obtain ⟨vl⟩ := vs; simp only at ha
    cases ha with
    | @cons _ y _ ys hx hr =>
      split at h
      · rename_i k n
        obtain ⟨r, hr', hv⟩ := foldMinMax_sim (P := P) h hx hr ⟨_, _, rfl⟩ w
        exact ⟨r, by simp at hr'; simp [Go.builtin, Builtin.max_, hr'], hv⟩
      · cases h
  · cases h
theorem places_sim (hC : Ctx.Ok P C) : ∀ {fs : List Field} {pl : List (Nat × Nat)}, placesE C fs = some pl → ∀ w, (fs.mapM fun f => do pure (f.offset, ← sizeOf f.type) : Sem (List (Nat × Nat))).run P w = .ok pl w
  | [], pl, h, w => by simp [placesE] at h; subst h; rfl
  | f :: fs, pl, h, w => by
    unfold placesE at h
    split at h
    · rename_i i ps hi hp
      cases h
      obtain ⟨ti, z, -, h2, h3, -⟩ := hC.got hi
      have ih := places_sim hC hp w
      simp only [List.mapM_cons, Sem.run_bind, run_size h2, Result.andThen_ok, Sem.run_pure, h3] at ih ⊢
      rw [ih]; rfl
    · cases h
end Go.PI
