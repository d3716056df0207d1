/- Own work of the verifier: PiCall2 PiYield PiMap PiOp. -/
import Derived.Test.YtefajaiioljjoaaOwAE
import Derived.Test.YtefajaiioljjoaaOwAD
set_option linter.all false
set_option exponentiation.threshold 3000
set_option linter.deprecated false
namespace Go.PI
variable {P : Program} {C : Ctx} {μ : M}
theorem wd_plain {F : Fence} (h : Wd F) : Wd F.plain := h
theorem wd_round {F : Fence} (h : Wd F) (l : Nat) : Wd (F.inRound l) := h
theorem callB_sim (hC : Ctx.Ok P C) {ih : Ih} (hih : IhOk P ih) {f : FuncId} {as : List AV} {H H' : Heap} {v : AV} (h : callB C ih f as H = some (v, H')) {args : Array Value} (ha : VRs μ as args.toList) {w : World} (hH : HR μ H w) : CallR P μ H w f args v H' := by
  unfold callB at h
  split at h
  · -- a function of the machine's own
    split at h
    · rename_i x hx
      cases h
      have : ∃ y, args = #[y] ∧ VR μ v y := by
        obtain ⟨l⟩ := args; simp only at ha
        cases ha with
        | cons h1 h2 => cases h2; exact ⟨_, rfl, h1⟩
      obtain ⟨y, rfl, hy⟩ := this
      exact .inl ⟨y, w, hC.same f hx y w, μ, hy, hH, Fr.refl _ _ _⟩
    · rename_i e n hx
      split at h
      · rename_i hc
        obtain ⟨c1, c2, c3⟩ := hc
        cases h
        have : args = #[.int .i64 n] := by
          obtain ⟨l⟩ := args; simp only at ha
          cases ha with
          | cons h1 h2 => cases h2; rw [h1.int_inv]
        subst this
        obtain ⟨cap, cs, k, k1, k1m, k2, k3⟩ := hC.noZero f e hx n w c1 c2
        have hH' : HR μ H ({ w with drawn := k } : World) := hH.same rfl
        have hp := hH'.push (w' := ({ w with drawn := k } : World).alloc (.cells cs e)) c3 (bi := ⟨w.heap.size, cs.size, 0⟩) (b := .cells true e []) (Nat.le_refl _) (by simp only [World.size_alloc]; omega) ⟨rfl, rfl, rfl⟩ (by simp only [World.size_alloc]; omega)
          (fun k hk => RowKit.Below.heap_alloc _ _ _ hk) (blk0 rfl ⟨cs, (0, 0), World.alloc_heap_new _ _, rfl, by simp, .nil, fun _ => rfl⟩)
        refine .inl ⟨_, _, k3, _, ?_, hp.1, ⟨hp.2.le, hp.2.eq, hp.2.n, hp.2.os, hp.2.tape, hp.2.output, hp.2.size, hp.2.keep, hp.2.ro⟩⟩
        exact .slu (off := 0) (M.set_self _ _ _) (by simp [k2]) (by omega) k1m
      · cases h
    · cases h
  · rename_i fi hfi
    obtain ⟨fn, f1, f2, f3, f4, f5⟩ := hC.fn f fi hfi
    have hbody : fn.body.isNone = false := by rw [f4]; rfl
    have hcall : (callFunc f args).run P w = .ok (.enter f args) w := by
      have f5' : ¬ fn.name = "runtime.NumGoroutine" := by simpa using f5
      simp [callFunc, f1, f5', f4]
    refine .inr ⟨hcall, fun F n hF => ?_⟩
    have key : ∀ e s, ih none fi.body ⟨as ++ List.replicate (fi.ntmps - as.length) undefA, H, []⟩ = some (e, s) → (e = .normal ∨ e = .ret) →
        (match shutMarks s.D s.H with
          | some H' => match resultsE C s.T H' fi.results with
            | some [v] => some (v, H')
            | some vs => some (.tup vs, H')
            | none => none
          | none => none) = some (v, H') → CallsIn F n P f args w fun e w' => ∃ u, e = .returned u ∧ EffR μ H w v H' u w' := fun e s hrun he hres => by
      have hlen : as.length = args.size := by rw [ha.length]; simp
      have hwp := hih none fi.body _ e s hrun F.plain n (wd_plain hF) μ { tmps := args ++ Array.replicate (fn.ntmps - args.size) undef, defers := [] } w rfl
        ⟨by rw [f2, hlen]; simpa using ha.append (All2.replicate undefR (fi.ntmps - args.size)), .nil, hH⟩
      have hcalls : CallsIn F.plain n P f args w fun e w' => ∃ u, e = .returned u ∧ EffR μ H w v H' u w' := by
        refine callsIn_of_wp_marks f1 f4 (hF.1 f) (wpIn_mono hwp ?_) rfl
        rintro e' a' w' ⟨rfl, μ', hst, hfr⟩
        have hleave : LeavesInM F.plain n P fn a'.tmps (fun e w' => ∃ u, e = .returned u ∧ EffR μ H w v H' u w') a'.defers .returning w' := by
          split at hres
          · rename_i H2 hsh
            refine shut_sim hsh hst.D hst.H fun w2 g1 g2 => ?_
            have hall : ∀ vs, resultsE C s.T H2 fi.results = some vs → retOf vs = v → H2 = H' → LeavesInM F.plain n P fn a'.tmps (fun e w' => ∃ u, e = .returned u ∧ EffR μ H w v H' u w') [] .returning w2 := fun vs hvs hv hH2 => by
              subst hH2
              obtain ⟨u, hu, hvu⟩ := results_run hC hst.T g1 f3 hvs
              rw [hv] at hvu
              exact ⟨u, hu, u, rfl, μ', hvu, g1, hfr.trans g2⟩
            split at hres
            · rename_i v' hv'
              cases hres
              exact hall _ hv' rfl rfl
            · rename_i vs hne hv'
              cases hres
              refine hall _ hv' ?_ rfl
              cases vs with
              | nil => rfl
              | cons x xs => cases xs with
                | nil => exact absurd rfl (hne x)
                | cons _ _ => rfl
            · cases hres
          · cases hres
        rcases he with rfl | rfl <;> exact hleave
      exact hcalls
    split at h
    · rename_i s hrun; exact key _ _ hrun (.inl rfl) h
    · rename_i s hrun; exact key _ _ hrun (.inr rfl) h
    · cases h
theorem callF_sim (hC : Ctx.Ok P C) {ih : Ih} (hih : IhOk P ih) {f : FuncId} {as : List AV} {H H' : Heap} {v : AV} (h : callF C ih f as H = some (v, H')) {args : Array Value} (ha : VRs μ as args.toList) {w : World} (hH : HR μ H w) : CallR P μ H w f args v H' := by
  unfold callF at h
  split at h
  · rename_i r hr
    cases h
    unfold sumE at hr
    split at hr
    · rename_i S hS
      exact hC.sum f S as H v H' hS hr μ args w ha hH
    · cases hr
  · exact callB_sim hC hih h ha hH
theorem foldPar_sim : ∀ {ps : List Tmp} {T as : List AV} {tm : Array Value} {vs : List Value}, VRs μ T tm.toList → VRs μ as vs → ps.length = as.length →
    VRs μ (foldPar T ps as) ((ps.zip vs).foldl (fun (t : Array Value) (p : Tmp × Value) => t.setIfInBounds p.1 p.2) tm).toList
  | [], T, as, tm, vs, hT, ha, hl => by
    simpa [foldPar] using hT
  | p :: ps, T, [], tm, vs, hT, ha, hl => by simp at hl
  | p :: ps, T, a :: as, tm, vs, hT, ha, hl => by
    cases ha with
    | @cons _ v _ vs h1 h2 =>
      simp only [foldPar, List.zip_cons_cons, List.foldl_cons]
      exact foldPar_sim (by simpa using hT.set h1 p) h2 (by simpa using hl)
end Go.PI
namespace Go.PI
variable {P : Program} {C : Ctx} {μ : M}
theorem HR.loop {H : Heap} {w : World} (h : HR μ H w) {b : Nat} {bi : BI} {L : ALoop} (hb : H.get b = .loop L) (hm : μ b = some bi) :
    bi.c < w.heap.size ∧ ∃ lp, w.heap[bi.c]? = some (.loop lp) ∧ lp.state = L.state ∧ lp.pending = L.pending ∧ VRs μ L.tmps lp.tmps.toList ∧ lp.params = L.params ∧ lp.assign = L.assign ∧ lp.body = L.body ∧ ∃ bd, μ L.dfr = some bd ∧ lp.defers = bd.c := by
  have := h.blk b bi (by rw [hb]; rfl) hm
  rw [hb] at this
  exact this
theorem set_loop {H : Heap} {w : World} (hH : HR μ H w) {b : Nat} {bi : BI} {L : ALoop} (hb : H.get b = .loop L) (hm : μ b = some bi) {lp : Loop} (hl : w.heap[bi.c]? = some (.loop lp)) (st : LoopState) (pe : Option Code) :
    HR μ (H.set b (.loop { L with state := st, pending := pe })) (w.putObj bi.c (.loop { lp with state := st, pending := pe })) ∧ Fr μ H w μ (H.set b (.loop { L with state := st, pending := pe })) (w.putObj bi.c (.loop { lp with state := st, pending := pe })) := by
  obtain ⟨hlt, lp', e1, -, -, e4, e5, e6, e7, e8⟩ := hH.loop hb hm
  rw [hl] at e1; cases e1
  exact hH.set (by rw [hb]; rfl) hm ⟨rfl, rfl, rfl⟩ (by simp) (fun k hk => World.putObj_heap_other hk) ⟨_, World.putObj_heap_same hlt, rfl, rfl, e4, e5, e6, e7, e8⟩
theorem yieldF_sim {ih : Ih} (hih : IhOk P ih) {l : Nat} {as : List AV} {H H' : Heap} {v : AV} (h : yieldF ih l as H = some (v, H')) {args : Array Value} (ha : VRs μ as args.toList) {bi : BI} (hm : μ l = some bi) {w : World} (hH : HR μ H w) :
    ∃ f tmps assign body, (Instr.yield bi.c args).run P w = .ok (.round bi.c f tmps assign body) w ∧ ∀ (F : Fence) (n : Nat), Wd F → RoundIn F n P bi.c f tmps assign body w fun e w' => ∃ u, e = .returned u ∧ EffR μ H w v H' u w' := by
  unfold yieldF at h
  split at h
  · rename_i L hg
    split at h
    · rename_i hc
      obtain ⟨hc1, hc2⟩ := hc
      obtain ⟨hlt, lp, e1, e2, e3, e4, e5, e6, e7, e8⟩ := hH.loop hg hm
      have hsz : args.size = lp.params.size := by rw [e5, ← hc1, ha.length]; simp
      refine ⟨_, _, _, _, run_yield e1 hsz, fun F n hF => roundIn_of_wpIn (hF.1 _) ?_⟩
      split at h
      · rename_i T1 H1 hr1
        have htm : VRs μ (foldPar L.tmps L.params.toList as) ((lp.params.zip args).foldl (fun tmps (p : Tmp × Value) => tmps.setIfInBounds p.1 p.2) lp.tmps).toList := by
          rw [← Array.foldl_toList, Array.toList_zip, e5]
          exact foldPar_sim e4 ha (by simpa using hc1.symm)
        rw [e6, e7]
        refine wpIn_mono (hih (some l) L.assign _ _ _ hr1 (F.inRound bi.c) n (wd_round hF _) μ _ w ⟨bi, hm, rfl⟩ ⟨htm, .nil, hH⟩) ?_
        rintro e' a1 w1 ⟨rfl, μ1, hs1, hf1⟩
        have hm1 := hf1.le _ _ hm
        split at h
        · rename_i L1 hg1
          split at h
          · rename_i hst1
            obtain ⟨hlt1, lp1, g1, g2, -⟩ := hs1.H.loop hg1 hm1
            obtain ⟨b1, b2⟩ := set_loop hs1.H hg1 hm1 g1 .busy L1.pending
            have hpend : lp1.pending = L1.pending := by
              obtain ⟨_, lp', q1, _, q3, _⟩ := hs1.H.loop hg1 hm1
              rw [g1] at q1; cases q1; exact q3
            have hbr := run_beginRound (P := P) g1 (g2.trans hst1)
            have hw2 : ({ lp1 with state := .busy } : Loop) = { lp1 with state := .busy, pending := L1.pending } := by rw [← hpend]
            rw [hw2] at hbr
            refine ⟨_, hbr, ?_⟩
            split at h
            · rename_i e _ H2 hr2
              refine wpIn_mono (hih (some l) L.body _ _ _ hr2 (F.inRound bi.c) n (wd_round hF _) μ1 a1 _ ⟨bi, hm1, rfl⟩ ⟨hs1.T, hs1.D, b1⟩) ?_
              rintro e' a2 w3 ⟨rfl, μ2, hs2, hf2⟩
              have hm2 := hf2.le _ _ hm1
              split at h
              · rename_i L2 hg2
                cases h
                obtain ⟨hlt2, lp2, q1, -⟩ := hs2.H.loop hg2 hm2
                obtain ⟨c1, c2⟩ := set_loop hs2.H hg2 hm2 q1 (if e.jump.isNone then .ready else .done) e.jump
                have fin : ∃ v' w', (Instr.endRound bi.c e.jump).run P w3 = .ok v' w' ∧ ∃ u, Ending.returned v' = .returned u ∧ EffR μ H w (.bool e.jump.isNone) (H2.set l (.loop { L2 with state := if e.jump.isNone then .ready else .done, pending := e.jump })) u w' :=
                  ⟨_, _, run_endRound e.jump q1, _, rfl, μ2, .bool _, c1, ((hf1.trans b2).trans hf2).trans c2⟩
                cases e <;> exact fin
              · cases h
            · cases h
          · cases h
        · cases h
      · cases h
    · cases h
  · cases h
end Go.PI
/- MAPS OF INTEGERS. -/
namespace Go.PI
variable {P : Program} {C : Ctx} {μ : M}
theorem map_find {k : IntKind} {n : Int} : ∀ {es : List (Int × AV)} {ms : List MapEntry} (i : Nat), All2 (EntR μ k) es ms →
    (mapGet es n = none ∧ Instr.findNow (.int k) (.int k n) ms i = some none ∧ ∀ (a : AV) (u : Value) (c : Nat), VR μ a u → All2 (EntR μ k) (mapSet es n a) (ms ++ [{ key := .int k n, val := u, born := c }])) ∨
    ∃ j e a, mapGet es n = some a ∧ VR μ a e.val ∧ Instr.findNow (.int k) (.int k n) ms i = some (some (i + j, e.val)) ∧ ms[j]? = some e ∧ e.key = .int k n ∧
      ∀ (b : AV) (u : Value), VR μ b u → All2 (EntR μ k) (mapSet es n b) (ms.modify j fun e => { e with key := .int k n, val := u })
  | [], _, i, h => by
    cases h
    exact .inl ⟨rfl, rfl, fun a u c hv => .cons ⟨rfl, hv⟩ .nil⟩
  | (k', x) :: es, _, i, h => by
    cases h with
    | @cons _ m _ ms h1 h2 =>
      obtain ⟨hk, hx⟩ := h1
      simp only at hk hx
      by_cases hn : k' = n
      · subst hn
        refine .inr ⟨0, m, x, ?_, hx, ?_, rfl, hk, fun b u hv => ?_⟩
        · simp [mapGet]
        · simp [Instr.findNow, Instr.sameNow, hk]
        · simp only [mapSet, beq_self_eq_true]
          exact .cons ⟨rfl, hv⟩ h2
      · have hb : (k' == n) = false := by simpa using hn
        have hb2 : (n == k') = false := by simpa using fun e => hn e.symm
        have hf : ∀ i, Instr.findNow (.int k) (.int k n) (m :: ms) i = Instr.findNow (.int k) (.int k n) ms (i + 1) := fun i => by
          simp only [Instr.findNow, Instr.sameNow, hk, if_true, hb2]
        rcases map_find (n := n) (i + 1) h2 with ⟨q1, q2, q3⟩ | ⟨j, e, a, q1, q2, q3, q4, q5, q6⟩
        · refine .inl ⟨by simp [mapGet, hb, q1], by rw [hf]; exact q2, fun a u c hv => ?_⟩
          simp only [mapSet, hb]
          exact .cons ⟨hk, hx⟩ (q3 a u c hv)
        · refine .inr ⟨j + 1, e, a, by simp [mapGet, hb, q1], q2, by rw [hf, q3]; congr 2; simp; omega, by simpa using q4, q5, fun b u hv => ?_⟩
          simp only [mapSet, hb, List.modify_succ_cons]
          exact .cons ⟨hk, hx⟩ (q6 b u hv)
theorem sameBs_iff (a b : ByteArray) : sameBs a b = true ↔ a = b := by
  unfold sameBs
  rw [beq_iff_eq]
  constructor
  · intro h; cases a; cases b; simpa using h
  · rintro rfl; rfl
theorem smap_find {n : ByteArray} : ∀ {es : List (ByteArray × AV)} {ms : List MapEntry} (i : Nat), All2 (EntS μ) es ms →
    (smapGet es n = none ∧ Instr.findNow .string (.string n) ms i = some none ∧ ∀ (a : AV) (u : Value) (c : Nat), VR μ a u → All2 (EntS μ) (smapSet es n a) (ms ++ [{ key := .string n, val := u, born := c }])) ∨
    ∃ j e a, smapGet es n = some a ∧ VR μ a e.val ∧ Instr.findNow .string (.string n) ms i = some (some (i + j, e.val)) ∧ ms[j]? = some e ∧ e.key = .string n ∧
      ∀ (b : AV) (u : Value), VR μ b u → All2 (EntS μ) (smapSet es n b) (ms.modify j fun e => { e with key := .string n, val := u })
  | [], _, i, h => by
    cases h
    exact .inl ⟨rfl, rfl, fun a u c hv => .cons ⟨rfl, hv⟩ .nil⟩
  | (k', x) :: es, _, i, h => by
    cases h with
    | @cons _ m _ ms h1 h2 =>
      obtain ⟨hk, hx⟩ := h1
      simp only at hk hx
      by_cases hn : k' = n
      · subst hn
        have hs : sameBs k' k' = true := (sameBs_iff _ _).2 rfl
        have hs2 : Instr.sameNow .string (.string k') (.string k') = some true := by
          simp [Instr.sameNow, MapKept.bytes_beq]
        refine .inr ⟨0, m, x, ?_, hx, ?_, rfl, hk, fun b u hv => ?_⟩
        · simp [smapGet, hs]
        · simp [Instr.findNow, hk, hs2]
        · simp only [smapSet, hs]
          exact .cons ⟨rfl, hv⟩ h2
      · have hb : sameBs k' n = false := by rw [Bool.eq_false_iff]; exact fun e => hn ((sameBs_iff _ _).1 e)
        have hf : ∀ i, Instr.findNow .string (.string n) (m :: ms) i = Instr.findNow .string (.string n) ms (i + 1) := fun i => by
          have hs2 : Instr.sameNow .string (.string n) m.key = some false := by
            rw [hk]
            obtain ⟨r, hr, hi⟩ := MapKept.sameNow_of_keys (d := .string) (a := .string n) (b := .string k') trivial trivial
            rw [hr]
            cases r with
            | false => rfl
            | true => exact absurd (by simpa using (hi.1 rfl).symm) hn
          simp only [Instr.findNow, hs2]
        rcases smap_find (n := n) (i + 1) h2 with ⟨q1, q2, q3⟩ | ⟨j, e, a, q1, q2, q3, q4, q5, q6⟩
        · refine .inl ⟨by simp [smapGet, hb, q1], by rw [hf]; exact q2, fun a u c hv => ?_⟩
          simp only [smapSet, hb]
          exact .cons ⟨hk, hx⟩ (q3 a u c hv)
        · refine .inr ⟨j + 1, e, a, by simp [smapGet, hb, q1], q2, by rw [hf, q3]; congr 2; simp; omega, by simpa using q4, q5, fun b u hv => ?_⟩
          simp only [smapSet, hb, List.modify_succ_cons]
          exact .cons ⟨hk, hx⟩ (q6 b u hv)
theorem HR.smap {H : Heap} {w : World} (h : HR μ H w) {b : Nat} {bi : BI} {es : List (ByteArray × AV)} (hb : H.get b = .smap es) (hm : μ b = some bi) :
    bi.c < w.heap.size ∧ ∃ ms clock, w.heap[bi.c]? = some (.map ms clock) ∧ All2 (EntS μ) es ms.toList := by
  have := h.blk b bi (by rw [hb]; rfl) hm
  rw [hb] at this
  exact this
theorem makeMap_sim (hC : Ctx.Ok P C) {H H' : Heap} {w : World} (hH : HR μ H w) {t : TypeId} {v : AV} (h : makeMapE C t H = some (v, H')) : ∃ u w', (Instr.makeMap t none).run P w = .ok u w' ∧ EffR μ H w v H' u w' := by
  unfold makeMapE at h
  split at h
  · cases h
  · rename_i hl
    split at h
    · split at h
      · rename_i k _ _ _ _
        cases h
        have hn : H.n < PI.lim := by omega
        have hp := hH.push (w' := w.alloc (.map #[] 0)) hn (bi := ⟨w.heap.size, 0, 0⟩) (b := .map k []) (Nat.le_refl _) (by simp only [World.size_alloc]; omega) ⟨rfl, rfl, rfl⟩ (by simp only [World.size_alloc]; omega)
          (fun k hk => RowKit.Below.heap_alloc _ _ _ hk) ⟨#[], 0, (MapKept.heap_alloc w _).1, .nil⟩
        exact ⟨.map (some w.heap.size), _, by simp [Instr.makeMap], _, .mp (bi := ⟨w.heap.size, 0, 0⟩) (M.set_self _ _ _), hp.1, hp.2⟩
      · cases h
        have hn : H.n < PI.lim := by omega
        have hp := hH.push (w' := w.alloc (.map #[] 0)) hn (bi := ⟨w.heap.size, 0, 0⟩) (b := .smap []) (Nat.le_refl _) (by simp only [World.size_alloc]; omega) ⟨rfl, rfl, rfl⟩ (by simp only [World.size_alloc]; omega)
          (fun k hk => RowKit.Below.heap_alloc _ _ _ hk) ⟨#[], 0, (MapKept.heap_alloc w _).1, .nil⟩
        exact ⟨.map (some w.heap.size), _, by simp [Instr.makeMap], _, .mp (bi := ⟨w.heap.size, 0, 0⟩) (M.set_self _ _ _), hp.1, hp.2⟩
      · cases h
    · cases h
theorem HR.map {H : Heap} {w : World} (h : HR μ H w) {b : Nat} {bi : BI} {k : IntKind} {es : List (Int × AV)} (hb : H.get b = .map k es) (hm : μ b = some bi) :
    bi.c < w.heap.size ∧ ∃ ms clock, w.heap[bi.c]? = some (.map ms clock) ∧ All2 (EntR μ k) es ms.toList := by
  have := h.blk b bi (by rw [hb]; rfl) hm
  rw [hb] at this
  exact this
theorem VR.mp_inv {b : Nat} {v : Value} (h : VR μ (.mp b) v) : ∃ bi, μ b = some bi ∧ v = .map (some bi.c) := by
  cases h with
  | mp h => exact ⟨_, h, rfl⟩
theorem lookup_sim (hC : Ctx.Ok P C) {H H' : Heap} {w : World} (hH : HR μ H w) {t : TypeId} {m key v : AV} {ok : Bool} {m' key' : Value} (h : lookupE C t m key ok H = some (v, H')) (hm : VR μ m m') (hk : VR μ key key') :
    ∃ u, (Instr.lookup t m' key' ok).run P w = .ok u w ∧ VR μ v u ∧ H' = H := by
  unfold lookupE at h
  split at h
  · rename_i kt et _ _ _ b k n hi
    obtain ⟨bi, hb, rfl⟩ := hm.mp_inv
    have := hk.int_inv; subst this
    obtain ⟨ti, z, h1, -⟩ := hC.got hi
    split at h
    · rename_i k1 _ _ _ ei k2 es hkt het hg
      obtain ⟨tk, zk, hk1, -⟩ := hC.got hkt
      obtain ⟨te, ze, -, h2, h3, -, hz, hzr, hzl⟩ := hC.got het
      obtain ⟨hlt, ms, clock, hw, hent⟩ := hH.map hg hb
      split at h
      · rename_i hc
        obtain ⟨rfl, rfl⟩ := hc
        have hck := MapKept.run_checkKey (P := P) (w := w) (k := .int k n) hk1 (by exact rfl) ms.isEmpty 9999
        rcases map_find (n := n) 0 hent with ⟨q1, q2, q3⟩ | ⟨j, e, a, q1, q2, q3, q4, q5, q6⟩
        · rw [q1] at h
          simp only [Option.some.injEq, Prod.mk.injEq] at h
          obtain ⟨rfl, rfl⟩ := h
          have hzv : VR μ ei.zero ze := hzr.mono (fun _ _ e => by cases e)
          refine ⟨if ok then .tuple #[ze, .bool false] else ze, ?_, ?_, rfl⟩
          · simp only [Instr.lookup, Sem.run_bind, run_und h1, Result.andThen_ok, MapKept.run_getObj_map hw, Sem.run_pure, hck, MapKept.run_findKey hk1 q2, run_zero h2 hz]
          · cases ok
            · exact hzv
            · exact .tup (xs := #[ze, .bool false]) (.cons hzv (.cons (.bool _) .nil))
        · rw [q1] at h
          simp only [Option.some.injEq, Prod.mk.injEq] at h
          obtain ⟨rfl, rfl⟩ := h
          refine ⟨if ok then .tuple #[e.val, .bool true] else e.val, ?_, ?_, rfl⟩
          · simp only [Instr.lookup, Sem.run_bind, run_und h1, Result.andThen_ok, MapKept.run_getObj_map hw, Sem.run_pure, hck, MapKept.run_findKey hk1 q3]
          · cases ok
            · exact q2
            · exact .tup (xs := #[e.val, .bool true]) (.cons q2 (.cons (.bool _) .nil))
      · cases h
    · cases h
  · rename_i kt et _ _ _ b n hi
    obtain ⟨bi, hb, rfl⟩ := hm.mp_inv
    have := hk.str_inv; subst this
    obtain ⟨ti, z, h1, -⟩ := hC.got hi
    split at h
    · rename_i _ _ _ ei es hkt het hg
      obtain ⟨tk, zk, hk1, -⟩ := hC.got hkt
      obtain ⟨te, ze, -, h2, h3, -, hz, hzr, hzl⟩ := hC.got het
      obtain ⟨hlt, ms, clock, hw, hent⟩ := hH.smap hg hb
      have hck := MapKept.run_checkKey (P := P) (w := w) (k := .string n) hk1 trivial ms.isEmpty 9999
      rcases smap_find (n := n) 0 hent with ⟨q1, q2, q3⟩ | ⟨j, e, a, q1, q2, q3, q4, q5, q6⟩
      · rw [q1] at h
        simp only [Option.some.injEq, Prod.mk.injEq] at h
        obtain ⟨rfl, rfl⟩ := h
        have hzv : VR μ ei.zero ze := hzr.mono (fun _ _ e => by cases e)
        refine ⟨if ok then .tuple #[ze, .bool false] else ze, ?_, ?_, rfl⟩
        · simp only [Instr.lookup, Sem.run_bind, run_und h1, Result.andThen_ok, MapKept.run_getObj_map hw, Sem.run_pure, hck, MapKept.run_findKey hk1 q2, run_zero h2 hz]
        · cases ok
          · exact hzv
          · exact .tup (xs := #[ze, .bool false]) (.cons hzv (.cons (.bool _) .nil))
      · rw [q1] at h
        simp only [Option.some.injEq, Prod.mk.injEq] at h
        obtain ⟨rfl, rfl⟩ := h
        refine ⟨if ok then .tuple #[e.val, .bool true] else e.val, ?_, ?_, rfl⟩
        · simp only [Instr.lookup, Sem.run_bind, run_und h1, Result.andThen_ok, MapKept.run_getObj_map hw, Sem.run_pure, hck, MapKept.run_findKey hk1 q3]
        · cases ok
          · exact q2
          · exact .tup (xs := #[e.val, .bool true]) (.cons q2 (.cons (.bool _) .nil))
    · cases h
  · cases h
theorem update_sim (hC : Ctx.Ok P C) {H H' : Heap} {w : World} (hH : HR μ H w) {t : TypeId} {m key v r : AV} {m' key' v' : Value} (h : updateE C t m key v H = some (r, H')) (hm : VR μ m m') (hk : VR μ key key') (hv : VR μ v v') :
    ∃ w', (Instr.mapUpdate t m' key' v').run P w = .ok () w' ∧ r = undefA ∧ HR μ H' w' ∧ Fr μ H w μ H' w' := by
  unfold updateE at h
  split at h
  · rename_i kt et _ _ _ b k n hi
    obtain ⟨bi, hb, rfl⟩ := hm.mp_inv
    have := hk.int_inv; subst this
    obtain ⟨ti, z, h1, -⟩ := hC.got hi
    split at h
    · rename_i k1 _ _ _ k2 es hkt hg
      obtain ⟨tk, zk, hk1, -⟩ := hC.got hkt
      obtain ⟨hlt, ms, clock, hw, hent⟩ := hH.map hg hb
      split at h
      · rename_i hc
        obtain ⟨rfl, rfl⟩ := hc
        cases h
        have hck := MapKept.run_checkKey (P := P) (w := w) (k := .int k n) hk1 (by exact rfl) false 9999
        have hset : ∀ (o : Obj), BlkR μ { w with heap := w.heap.setIfInBounds bi.c o } bi (.map k (mapSet es n v)) → HR μ (H.set b (.map k (mapSet es n v))) { w with heap := w.heap.setIfInBounds bi.c o } ∧ Fr μ H w μ (H.set b (.map k (mapSet es n v))) { w with heap := w.heap.setIfInBounds bi.c o } := fun o hr =>
          hH.set (w' := { w with heap := w.heap.setIfInBounds bi.c o }) (blk := .map k (mapSet es n v)) (by rw [hg]; rfl) hb ⟨rfl, rfl, rfl⟩ (by simp) (fun k hk => (MapKept.heap_set hw).2 k hk) hr
        rcases map_find (n := n) 0 hent with ⟨q1, q2, q3⟩ | ⟨j, e, a, q1, q2, q3, q4, q5, q6⟩
        · refine ⟨_, ?_, rfl, hset (.map (ms.push { key := .int k n, val := v', born := clock }) (clock + 1)) ?_⟩
          · simp [Instr.mapUpdate, run_und h1, MapKept.run_getObj_map hw, hck, MapKept.run_findKey hk1 q2, MapKept.run_setObj_map _ hw, Result.andThen]
          · exact ⟨_, _, (MapKept.heap_set hw).1, by simpa using q3 v v' clock hv⟩
        · have hj : ms[j]? = some e := by simpa using q4
          refine ⟨_, ?_, rfl, hset (.map (ms.modify j fun e => { e with key := .int k n, val := v' }) clock) ?_⟩
          · have hst := MapKept.run_keyThatStays (P := P) (w := w) (d := .int k) (k := .int k n) (by exact rfl)
            simp [Instr.mapUpdate, run_und h1, MapKept.run_getObj_map hw, hck, MapKept.run_findKey hk1 q3, hj, q5, hst, MapKept.run_setObj_map _ hw, Result.andThen]
          · exact ⟨_, _, (MapKept.heap_set hw).1, by simpa using q6 v v' hv⟩
      · cases h
    · cases h
  · rename_i kt _ _ _ _ b n hi
    obtain ⟨bi, hb, rfl⟩ := hm.mp_inv
    have := hk.str_inv; subst this
    obtain ⟨ti, z, h1, -⟩ := hC.got hi
    split at h
    · rename_i _ _ _ es hkt hg
      obtain ⟨tk, zk, hk1, -⟩ := hC.got hkt
      obtain ⟨hlt, ms, clock, hw, hent⟩ := hH.smap hg hb
      cases h
      have hck := MapKept.run_checkKey (P := P) (w := w) (k := .string n) hk1 trivial false 9999
      have hset : ∀ (o : Obj), BlkR μ { w with heap := w.heap.setIfInBounds bi.c o } bi (.smap (smapSet es n v)) → HR μ (H.set b (.smap (smapSet es n v))) { w with heap := w.heap.setIfInBounds bi.c o } ∧ Fr μ H w μ (H.set b (.smap (smapSet es n v))) { w with heap := w.heap.setIfInBounds bi.c o } := fun o hr =>
        hH.set (w' := { w with heap := w.heap.setIfInBounds bi.c o }) (blk := .smap (smapSet es n v)) (by rw [hg]; rfl) hb ⟨rfl, rfl, rfl⟩ (by simp) (fun k hk => (MapKept.heap_set hw).2 k hk) hr
      rcases smap_find (n := n) 0 hent with ⟨q1, q2, q3⟩ | ⟨j, e, a, q1, q2, q3, q4, q5, q6⟩
      · refine ⟨_, ?_, rfl, hset (.map (ms.push { key := .string n, val := v', born := clock }) (clock + 1)) ?_⟩
        · simp [Instr.mapUpdate, run_und h1, MapKept.run_getObj_map hw, hck, MapKept.run_findKey hk1 q2, MapKept.run_setObj_map _ hw, Result.andThen]
        · exact ⟨_, _, (MapKept.heap_set hw).1, by simpa using q3 v v' clock hv⟩
      · have hj : ms[j]? = some e := by simpa using q4
        refine ⟨_, ?_, rfl, hset (.map (ms.modify j fun e => { e with key := .string n, val := v' }) clock) ?_⟩
        · have hst := MapKept.run_keyThatStays (P := P) (w := w) (d := .string) (k := .string n) trivial
          simp [Instr.mapUpdate, run_und h1, MapKept.run_getObj_map hw, hck, MapKept.run_findKey hk1 q3, hj, q5, hst, MapKept.run_setObj_map _ hw, Result.andThen]
        · exact ⟨_, _, (MapKept.heap_set hw).1, by simpa using q6 v v' hv⟩
    · cases h
  · cases h
theorem All2.len {α β : Type} {R : α → β → Prop} {as : List α} {bs : List β} (h : All2 R as bs) : as.length = bs.length := h.length
theorem lenMap_sim (hC : Ctx.Ok P C) {H H' : Heap} {w : World} (hH : HR μ H w) {ts : Array TypeId} {m v : AV} {m' : Value} (ht : isMap C ts.toList = true) (h : lenMapE m H = some (v, H')) (hm : VR μ m m') (ty : TypeId) :
    ∃ u, (Builtin.len_ ts ty #[m']).run P w = .ok u w ∧ VR μ v u ∧ H' = H := by
  unfold lenMapE at h
  split at h
  · rename_i b
    obtain ⟨bi, hb, rfl⟩ := hm.mp_inv
    split at h
    · rename_i k es hg
      obtain ⟨hlt, ms, clock, hw, hent⟩ := hH.map hg hb
      split at h
      · cases h
        unfold isMap at ht
        split at ht
        · rename_i t et
          obtain ⟨tl⟩ := ts; simp only at et; subst et
          split at ht
          · rename_i kt e _ _ _ hi
            obtain ⟨ti, z, h1, -⟩ := hC.got hi
            refine ⟨goInt ms.size, ?_, ?_, rfl⟩
            · simp [Builtin.len_, run_und h1, MapKept.run_getObj_map hw]
            · have : es.length = ms.size := by simpa using hent.length
              rw [this]
              exact .int _ _
          · cases ht
        · cases ht
      · cases h
    · rename_i es hg
      obtain ⟨hlt, ms, clock, hw, hent⟩ := hH.smap hg hb
      split at h
      · cases h
        unfold isMap at ht
        split at ht
        · rename_i t et
          obtain ⟨tl⟩ := ts; simp only at et; subst et
          split at ht
          · rename_i kt e _ _ _ hi
            obtain ⟨ti, z, h1, -⟩ := hC.got hi
            refine ⟨goInt ms.size, ?_, ?_, rfl⟩
            · simp [Builtin.len_, run_und h1, MapKept.run_getObj_map hw]
            · have : es.length = ms.size := by simpa using hent.length
              rw [this]
              exact .int _ _
          · cases ht
        · cases ht
      · cases h
    · cases h
  · cases h
end Go.PI
namespace Go.PI
variable {P : Program} {C : Ctx} {μ : M}
theorem b2s_inv {P : Program} {C : Ctx} (hC : Ctx.Ok P C) {e : TypeId} {b o l : Nat} {H H' : Heap} {v : AV} (h : b2sE C e b o l H = some (v, H')) :
    P.underlying e = some (.int .u8) ∧ ∃ bs : List UInt8, v = .str ⟨bs.toArray⟩ ∧ H' = H ∧ 0 < l ∧ ∃ cs rw ty, H.get b = .cells rw ty cs ∧ bytesOf ((cs.drop o).take l) = some bs ∧ o + l ≤ cs.length := by
  unfold b2sE at h
  split at h
  · rename_i hc
    obtain ⟨ti, z, h1, -⟩ := hC.got hc
    split at h
    · rename_i hg
      split at h
      · rename_i hl
        split at h
        · rename_i bs hb
          cases h
          exact ⟨h1, bs, rfl, rfl, hl.1, _, _, _, hg, hb, hl.2⟩
        · cases h
      · cases h
    · cases h
  · cases h
theorem semAt_of {o : Oper} (h : ∀ c, o.op ≠ .defer c) (ro : Option Nat) (ρ : Operand → Value) : o.semAt ro ρ = execOp ρ o := Oper.semAt_eq ro ρ o h
theorem wpIn_value {F : Fence} {n : Nat} (hF : Wd F) {o : Oper} {a : Act} {w w' : World} {u : Value} {next : Act → World → Prop} {Q : Exit → Act → World → Prop} (hd : ∀ c, o.op ≠ .defer c) (h : (execOp a.eval o).run P w = .ok (.value u) w') (k : next (a.put o.dst u) w') : o.wpIn F n P a w next Q :=
  ⟨fun f _ => hF.1 f, by rw [semAt_of hd, h]; exact k⟩
theorem wpIn_skip' {F : Fence} {n : Nat} (hF : Wd F) {o : Oper} {a : Act} {w w' : World} {next : Act → World → Prop} {Q : Exit → Act → World → Prop} (hd : ∀ c, o.op ≠ .defer c) (h : (execOp a.eval o).run P w = .ok .skip w') (k : next (a.put o.dst undef) w') : o.wpIn F n P a w next Q :=
  ⟨fun f _ => hF.1 f, by rw [semAt_of hd, h]; exact k⟩
theorem wd_depth {F : Fence} (hF : Wd F) {n : Nat} : F.depth.isSome = true → 1 ≤ n := fun h => by rw [hF.2.1] at h; cases h
theorem pure_notDefer {ρ : Operand → Option AV} {op : Op} {v : AV} (h : pureE C ρ op = some v) : ∀ c, op ≠ .defer c := fun c e => by subst e; simp [pureE] at h
theorem runes_list (s : ByteArray) : ∀ (n i : Nat) (acc : Array Value), (Conv.runesFrom s n i acc).toList = acc.toList ++ (runesF s n i).map (Value.int .i32)
  | 0, i, acc => by simp [Conv.runesFrom, runesF]
  | n + 1, i, acc => by
    unfold Conv.runesFrom runesF
    split
    · rw [runes_list s n]
      simp
    · simp
theorem runes_vr {μ : M} : ∀ (xs : List Int), VRs μ (xs.map (AV.int .i32)) (xs.map (Value.int .i32))
  | [] => .nil
  | x :: xs => .cons (.int _ _) (runes_vr xs)
theorem runes_sim {H : Heap} {w : World} (hH : HR μ H w) (hn : H.n < PI.lim) (e : TypeId) (s : ByteArray) (hsm : (runesE s).length ≤ 2 ^ 30) : ∃ w' cap, (Conv.stringToRunes e s).run P w = .ok (.slice (some ⟨w.heap.size, 0, none⟩) (runesE s).length cap) w' ∧ (runesE s).length ≤ cap ∧ cap ≤ maxLen ∧
    HR (μ.set H.n ⟨w.heap.size, cap, 0⟩) (H.push (.cells true e (runesE s))) w' ∧ Fr μ H w (μ.set H.n ⟨w.heap.size, cap, 0⟩) (H.push (.cells true e (runesE s))) w' := by
  have hl : (Conv.runesFrom s s.size 0 #[]).toList = (runesF s s.size 0).map (Value.int .i32) := by simpa using runes_list s s.size 0 #[]
  have hsz : (Conv.runesFrom s s.size 0 #[]).size = (runesE s).length := by
    rw [← Array.length_toList, hl]; simp [runesE]
  have hcap : (Conv.runesFrom s s.size 0 #[]).size ≤ grownCap w (Conv.runesFrom s s.size 0 #[]).size 0 e := by unfold grownCap; exact Nat.le_add_right _ _
  have hg := push_grown hH hn (e := e) (runes_vr (μ := μ) (runesF s s.size 0)) (Conv.runesFrom s s.size 0 #[] ++ Array.replicate (grownCap w (Conv.runesFrom s s.size 0 #[]).size 0 e - (Conv.runesFrom s s.size 0 #[]).size) (Value.int .i32 0)) (rest := (Array.replicate (grownCap w (Conv.runesFrom s s.size 0 #[]).size 0 e - (Conv.runesFrom s s.size 0 #[]).size) (Value.int .i32 0)).toList) (by simp [hl])
  have hs2 : (Conv.runesFrom s s.size 0 #[] ++ Array.replicate (grownCap w (Conv.runesFrom s s.size 0 #[]).size 0 e - (Conv.runesFrom s s.size 0 #[]).size) (Value.int .i32 0)).size = grownCap w (Conv.runesFrom s s.size 0 #[]).size 0 e := by simp; omega
  rw [hs2] at hg
  refine ⟨_, grownCap w (Conv.runesFrom s s.size 0 #[]).size 0 e, ?_, by rw [← hsz]; exact hcap, Go.grownCap_le_maxLen _ _ _ _ (by rw [hsz]; unfold maxLen; omega), hg.1, hg.2⟩
  rw [← hsz]
  simp [Conv.stringToRunes, Question.forced, newRow, grownCap]
set_option maxHeartbeats 400000 in
theorem eff_sim (hC : Ctx.Ok P C) {ih : Ih} (hih : IhOk P ih) {o : Oper} {ρ : Operand → Option AV} {a : Act} {H H' : Heap} {v : AV} {w : World} (h : effE C ih ρ o.op H = some (v, H')) (hr : RhoR μ ρ a.eval o.op.operands) (hH : HR μ H w)
    {F : Fence} {n : Nat} (hF : Wd F) {next : Act → World → Prop} {Q : Exit → Act → World → Prop} (k : ∀ u w', EffR μ H w v H' u w' → next (a.put o.dst u) w') : o.wpIn F n P a w next Q := by
  obtain ⟨dst, op, ty, pos, after, guard⟩ := o
  simp only at h hr k
  cases op <;> simp only [effE] at h <;> try (cases h; done)
  case store t x y =>
    split at h
    · rename_i av vv ea ev
      split at h
      · rename_i H1 hs
        cases h
        obtain ⟨w', hrun, hh, hf⟩ := storeE_sim hC hH hs (hr x (by simp [Op.operands]) _ ea) (hr y (by simp [Op.operands]) _ ev)
        refine wpIn_skip' hF (by simp) (w' := w') (by simp [execOp, hrun]) (k _ _ ⟨μ, undefR, hh, hf⟩)
      · cases h
    · cases h
  case makeMap t r =>
    cases r with
    | some r => simp only at h; cases h
    | none =>
      obtain ⟨u, w', hrun, hE⟩ := makeMap_sim hC hH h
      exact wpIn_value hF (by simp) (u := u) (w' := w') (by simp [execOp, hrun]) (k _ _ hE)
  case lookup t m key ok =>
    split at h
    · rename_i mv kv em ek
      obtain ⟨u, hrun, hv, rfl⟩ := lookup_sim hC hH h (hr m (by simp [Op.operands]) _ em) (hr key (by simp [Op.operands]) _ ek)
      exact wpIn_value hF (by simp) (u := u) (w' := w) (by simp [execOp, hrun]) (k _ _ ⟨μ, hv, hH, Fr.refl _ _ _⟩)
    · cases h
  case mapUpdate t m key x =>
    split at h
    · rename_i mv kv xv em ek ex
      obtain ⟨w', hrun, rfl, hh, hf⟩ := update_sim hC hH h (hr m (by simp [Op.operands]) _ em) (hr key (by simp [Op.operands]) _ ek) (hr x (by simp [Op.operands]) _ ex)
      exact wpIn_skip' hF (by simp) (w' := w') (by simp [execOp, hrun]) (k _ _ ⟨μ, undefR, hh, hf⟩)
    · cases h
  case insert t m key x =>
    split at h
    · rename_i mv kv xv em ek ex
      obtain ⟨w', hrun, rfl, hh, hf⟩ := update_sim hC hH h (hr m (by simp [Op.operands]) _ em) (hr key (by simp [Op.operands]) _ ek) (hr x (by simp [Op.operands]) _ ex)
      exact wpIn_skip' hF (by simp) (w' := w') (by simp [execOp, hrun]) (k _ _ ⟨μ, undefR, hh, hf⟩)
    · cases h
  case convert s d x =>
    split at h
    · rename_i t _ _ _ _ _ _ b o hs hd ex
      obtain ⟨bi, hb, e'⟩ := (hr x (by simp [Op.operands]) _ ex).ptr_inv
      obtain ⟨ts, zs, s1, -⟩ := hC.got hs
      obtain ⟨td, zd, d1, -⟩ := hC.got hd
      split at h
      · rename_i rw' ty' cs ti hg hti
        obtain ⟨tt, zt, -, t2, t3, -⟩ := hC.got hti
        obtain ⟨hlt, carr, fz, hw, htop, hlen, hvs, hfz⟩ := hH.cells hg hb
        split at h
        · rename_i hc
          cases h
          refine wpIn_value hF (by simp) (u := .pointer (some ⟨bi.c, bi.base + o, none⟩)) (w' := w) ?_ (k _ _ ⟨μ, .ptr hb, hH, Fr.refl _ _ _⟩)
          simp [execOp, e', toUnsafe s1 d1 t2 (by rw [t3]; exact hc.2) hw (show bi.base + o < carr.size by omega)]
        · cases h
      · cases h
    · rename_i u _ _ _ _ _ _ b o hs hd ex
      obtain ⟨bi, hb, e'⟩ := (hr x (by simp [Op.operands]) _ ex).ptr_inv
      obtain ⟨ts, zs, s1, -⟩ := hC.got hs
      obtain ⟨td, zd, d1, -⟩ := hC.got hd
      split at h
      · rename_i rw' ty' cs ti hg hti
        obtain ⟨tt, zt, -, t2, t3, -⟩ := hC.got hti
        obtain ⟨hlt, carr, fz, hw, htop, hlen, hvs, hfz⟩ := hH.cells hg hb
        split at h
        · rename_i hc
          obtain ⟨rfl, c2, c3, c4⟩ := hc
          cases h
          have hal : (bi.base + o) % ti.size = 0 := by
            rcases c3.2 with h | h
            · rcases hH.base hg hb with h2 | h2
              · rw [h2, Nat.zero_add]; exact c3.1
              · rw [h] at h2; cases h2
            · rw [h]; exact Nat.mod_one _
          refine wpIn_value hF (by simp) (u := .pointer (some ⟨bi.c, bi.base + o, none⟩)) (w' := w) ?_ (k _ _ ⟨μ, .ptr hb, hH, Fr.refl _ _ _⟩)
          simp [execOp, e', ofUnsafe s1 d1 t2 (by rw [t3]; exact c2) hw (by rw [t3]; exact hal) (show bi.base + o + tt.size ≤ carr.size by omega)]
        · cases h
      · cases h
    · rename_i e0 _ _ _ st hs hd ex
      have e' := (hr x (by simp [Op.operands]) _ ex).str_inv
      obtain ⟨ts, zs, s1, -⟩ := hC.got hs
      obtain ⟨td, zd, d1, -⟩ := hC.got hd
      split at h
      · rename_i _ _ _ he0
        obtain ⟨te, ze, e1, -⟩ := hC.got he0
        split at h
        · cases h
        · rename_i hl
          cases h
          obtain ⟨w', cap, hrun, hcap, hcapm, g1, g2⟩ := runes_sim (P := P) hH (show H.n < PI.lim by omega) e0 st (by omega)
          refine wpIn_value hF (by simp) (u := .slice (some ⟨w.heap.size, 0, none⟩) (runesE st).length cap) (w' := w') (by simp [execOp, Go.convert, run_und s1, run_und d1, run_und e1, e']; rw [hrun]; rfl) (k _ _ ⟨_, ?_, g1, g2⟩)
          exact .slu (off := 0) (M.set_self _ _ _) (by show 0 + cap * 1 ≤ cap; omega) hcap hcapm
      · cases h
    · rename_i e0 _ _ _ _ _ _ b o l cp hs hd ex
      obtain ⟨bi, hb, e'⟩ := (hr x (by simp [Op.operands]) _ ex).sl_inv
      obtain ⟨ts, zs, s1, -⟩ := hC.got hs
      obtain ⟨td, zd, d1, -⟩ := hC.got hd
      obtain ⟨e1, bs, q1, q2, q3, cs, rw', ty', hg, hbs, hol⟩ := b2s_inv hC h
      cases q1; cases q2
      obtain ⟨hlt, carr, fz, hw, htop, hlen, hvs, hfz⟩ := hH.cells hg hb
      refine wpIn_value hF (by simp) (u := .string ⟨bs.toArray⟩) (w' := w) ?_ (k _ _ ⟨μ, .str _, hH, Fr.refl _ _ _⟩)
      have hv2 : VRs μ ((cs.drop o).take l) ((carr.toList.drop (bi.base + o)).take l) := by
        have := (hvs.drop o).take l
        rw [List.drop_take, List.drop_drop, List.take_take, Nat.min_eq_left (by omega)] at this
        exact this
      simp [execOp, e', run_b2s s1 e1 d1 hw hv2 hbs (by omega)]
    · rename_i e0 _ _ _ _ _ _ b o l hs hd ex
      obtain ⟨a, cp, e', hlc, bi, hb, hor, -⟩ := (hr x (by simp [Op.operands]) _ ex).slu_inv
      obtain ⟨ts, zs, s1, -⟩ := hC.got hs
      obtain ⟨td, zd, d1, -⟩ := hC.got hd
      obtain ⟨e1, bs, q1, q2, q3, cs, rw', ty', hg, hbs, hol⟩ := b2s_inv hC h
      cases q1; cases q2
      obtain ⟨hlt, carr, fz, hw, htop, hlen, hvs, hfz⟩ := hH.cells hg hb
      rcases hor with ⟨rfl, -⟩ | ⟨-, rfl⟩
      · omega
      refine wpIn_value hF (by simp) (u := .string ⟨bs.toArray⟩) (w' := w) ?_ (k _ _ ⟨μ, .str _, hH, Fr.refl _ _ _⟩)
      have hv2 : VRs μ ((cs.drop o).take l) ((carr.toList.drop (bi.base + o)).take l) := by
        have := (hvs.drop o).take l
        rw [List.drop_take, List.drop_drop, List.take_take, Nat.min_eq_left (by omega)] at this
        exact this
      simp [execOp, e', run_b2s s1 e1 d1 hw hv2 hbs (by omega)]
    · cases h
  case range t x =>
    split at h
    · rename_i _ _ _ st hs ex
      have e' := (hr x (by simp [Op.operands]) _ ex).str_inv
      obtain ⟨ts, zs, s1, -⟩ := hC.got hs
      split at h
      · cases h
      · rename_i hl
        cases h
        have hn : H.n < PI.lim := by omega
        have hp := hH.push (w' := w.alloc (.stringIter st 0)) hn (bi := ⟨w.heap.size, 0, 0⟩) (b := .siter st 0) (Nat.le_refl _) (by simp only [World.size_alloc]; omega) ⟨rfl, rfl, rfl⟩ (by simp only [World.size_alloc]; omega)
          (fun k hk => RowKit.Below.heap_alloc _ _ _ hk) ⟨rfl, (MapKept.heap_alloc w _).1⟩
        exact wpIn_value hF (by simp) (u := .pointer (some ⟨w.heap.size, 0, none⟩)) (w' := _) (by simp [execOp, Instr.range, run_und s1, e']) (k _ _ ⟨_, VR.ptr0 (M.set_self _ _ _), hp.1, hp.2⟩)
    · cases h
  case next x isS =>
    cases isS with
    | false => simp only at h; cases h
    | true =>
    simp only at h
    split at h
    · rename_i b ex
      obtain ⟨bi, hb, e'⟩ := (hr x (by simp [Op.operands]) _ ex).ptr_inv
      split at h
      · rename_i st q hg
        have hbk := hH.blk b bi (by rw [hg]; rfl) hb
        rw [hg] at hbk
        obtain ⟨hlt, hb0, hw⟩ := hbk
        rw [hb0] at e'
        split at h
        · rename_i hq
          cases h
          have hset := hH.set (w' := { w with heap := w.heap.setIfInBounds bi.c (.stringIter st (q + (Utf8.decode st q).2)) }) (blk := .siter st (q + (Utf8.decode st q).2)) (by rw [hg]; rfl) hb ⟨rfl, rfl, rfl⟩ (by simp) (fun k hk => (MapKept.heap_set hw).2 k hk) ⟨hb0, (MapKept.heap_set hw).1⟩
          refine wpIn_value hF (by simp) (u := .tuple #[.bool true, goInt q, .int .i32 (Utf8.decode st q).1]) (w' := _) ?_ (k _ _ ⟨μ, .tup (xs := #[.bool true, goInt q, .int .i32 (Utf8.decode st q).1]) (.cons (.bool _) (.cons (.int _ _) (.cons (.int _ _) .nil))), hset.1, hset.2⟩)
          simp [execOp, Instr.next, e', getObj, setObj, Sem.run, hw, hq, Result.andThen]
        · rename_i hq
          cases h
          refine wpIn_value hF (by simp) (u := .tuple #[.bool false]) (w' := w) ?_ (k _ _ ⟨μ, .tup (xs := #[.bool false]) (.cons (.bool _) .nil), hH, Fr.refl _ _ _⟩)
          simp [execOp, Instr.next, e', getObj, Sem.run, hw, hq, Result.andThen]
      · cases h
    · cases h
  case call c =>
    obtain ⟨callee, args, argTypes⟩ := c
    cases callee with
    | invoke r m => simp only at h; cases h
    | builtin b =>
      have hbr : ∀ {as : List AV}, opds ρ args.toList = some as → VRs μ as (args.map a.eval).toList := fun e => by
        simpa using opds_sim (ρ' := a.eval) e fun y hy => hr y (by simp [Op.operands, Call.operands]; simpa using hy)
      cases b <;> simp only at h <;> try (cases h; done)
      case append =>
        split at h
        · rename_i s x e
          have hs := hbr e
          obtain ⟨s', x', hargs, hs1, hx1⟩ : ∃ s' x', args.map a.eval = #[s', x'] ∧ VR μ s s' ∧ VR μ x x' := by
            generalize args.map a.eval = L at hs
            obtain ⟨l⟩ := L; simp only at hs
            cases hs with
            | cons q1 q2 => cases q2 with
              | cons q3 q4 => cases q4; exact ⟨_, _, rfl, q1, q3⟩
          obtain ⟨u, w', hrun, hE⟩ := appendE_sim hC hH h hs1 hx1 ty
          refine wpIn_value hF (by simp) (u := u) (w' := w') ?_ (k _ _ hE)
          simp only [execOp, resolve, Sem.run_bind, Sem.run_pure, Result.andThen_ok, invoke, Go.builtin, hargs, hrun]
        · cases h
      case copy =>
        split at h
        · rename_i s x e
          have hs := hbr e
          obtain ⟨s', x', hargs, hs1, hx1⟩ : ∃ s' x', args.map a.eval = #[s', x'] ∧ VR μ s s' ∧ VR μ x x' := by
            generalize args.map a.eval = L at hs
            obtain ⟨l⟩ := L; simp only at hs
            cases hs with
            | cons q1 q2 => cases q2 with
              | cons q3 q4 => cases q4; exact ⟨_, _, rfl, q1, q3⟩
          obtain ⟨u, w', hrun, hE⟩ := copyE_sim hC hH h hs1 hx1 ty
          refine wpIn_value hF (by simp) (u := u) (w' := w') ?_ (k _ _ hE)
          simp only [execOp, resolve, Sem.run_bind, Sem.run_pure, Result.andThen_ok, invoke, Go.builtin, hargs, hrun]
        · cases h
      case len =>
        split at h
        · rename_i hmap
          split at h
          · rename_i m e
            have hs := hbr e
            obtain ⟨m', hargs, hm1⟩ : ∃ m', args.map a.eval = #[m'] ∧ VR μ m m' := by
              generalize args.map a.eval = L at hs
              obtain ⟨l⟩ := L; simp only at hs
              cases hs with
              | cons q1 q2 => cases q2; exact ⟨_, rfl, q1⟩
            obtain ⟨u, hrun, hv, rfl⟩ := lenMap_sim hC hH hmap h hm1 ty
            refine wpIn_value hF (by simp) (u := u) (w' := w) ?_ (k _ _ ⟨μ, hv, hH, Fr.refl _ _ _⟩)
            simp only [execOp, resolve, Sem.run_bind, Sem.run_pure, Result.andThen_ok, invoke, Go.builtin, hargs, hrun]
          · cases h
        · cases h
      case unsafeString =>
        split at h
        · rename_i pt r et
          obtain ⟨tl⟩ := argTypes; simp only at et; subst et
          split at h
          · rename_i u _ _ _ p nn hpt e
            obtain ⟨tp, zp, p1, -⟩ := hC.got hpt
            have hs := hbr e
            obtain ⟨p', hargs, hp1⟩ : ∃ p', args.map a.eval = #[p', .int .i64 nn] ∧ VR μ p p' := by
              generalize args.map a.eval = L at hs
              obtain ⟨l⟩ := L; simp only at hs
              cases hs with
              | cons q1 q2 => cases q2 with
                | cons q3 q4 => cases q4; rw [q3.int_inv]; exact ⟨_, rfl, q1⟩
            split at h
            · have := hp1.nilp_inv; subst this
              split at h
              · rename_i h0; subst h0
                cases h
                refine wpIn_value hF (by simp) (u := .string .empty) (w' := w) ?_ (k _ _ ⟨μ, .str _, hH, Fr.refl _ _ _⟩)
                simp only [execOp, resolve, Sem.run_bind, Sem.run_pure, Result.andThen_ok, invoke, Go.builtin, hargs]
                rfl
              · cases h
            · rename_i b o
              obtain ⟨bi, hb, rfl⟩ := hp1.ptr_inv
              split at h
              · rename_i ty' cs ui hg hui
                obtain ⟨tu, zu, -, u2, u3, -⟩ := hC.got hui
                obtain ⟨hlt, carr, fz, hw, htop, hlen, hvs, hfz⟩ := hH.cells hg hb
                split at h
                · rename_i hc
                  obtain ⟨rfl, c2, c3, c4, c5⟩ := hc
                  split at h
                  · rename_i bs hbs
                    cases h
                    obtain ⟨m, rfl⟩ := Int.eq_ofNat_of_zero_le (show 0 ≤ nn by omega)
                    simp only [Int.toNat_natCast] at c5 hbs
                    have hrun := run_unsafeString (P := P) (pi := tp) (r := r) (ty := ty) p1 u2 (by rw [u3]; exact c2) hw (n := m) (by omega) (by omega) (show bi.base + o + m ≤ carr.size by omega) (by have := VRs.sub (k := 0) hvs o m c5; rwa [List.drop_drop] at this) hbs
                    refine wpIn_value hF (by simp) (u := .string ⟨bs.toArray⟩) (w' := w.freeze ⟨bi.c, bi.base + o, none⟩ m) ?_ ?_
                    · simp only [execOp, resolve, Sem.run_bind, Sem.run_pure, Result.andThen_ok, invoke, Go.builtin, hargs]
                      rw [show ((m : Nat) : Int) = (Int.ofNat m) from rfl] at hrun
                      exact (congrArg (fun r => Result.andThen r fun v w' => .ok (Next.value v) w') hrun)
                    · refine k _ _ ⟨μ, .str _, hH.set (by rw [hg]; rfl) hb ⟨?_, ?_, ?_⟩ ?_ (fun j hj => ?_) trivial⟩
                      all_goals (unfold World.freeze; rw [if_neg (by omega)])
                      · simp
                      · rw [Array.getElem?_modify, if_neg (Ne.symm hj)]
                  · cases h
                · cases h
              · cases h
            · cases h
          · cases h
        · cases h
    | value f =>
      simp only at h
      have hbr : ∀ {as : List AV}, opds ρ args.toList = some as → VRs μ as (args.map a.eval).toList := fun e => by
        simpa using opds_sim (ρ' := a.eval) e fun y hy => hr y (by simp [Op.operands, Call.operands]; exact .inr (by simpa using hy))
      split at h
      · rename_i g first caps as ef ea
        obtain ⟨xs, ys, e', h1, h2⟩ := (hr f (by simp [Op.operands, Call.operands]) _ ef).fn_inv
        have hall : VRs μ (first ++ as ++ caps) (xs ++ args.map a.eval ++ ys).toList := by
          simp only [Array.toList_append]; exact (h1.append (hbr ea)).append h2
        have hx : ∀ {r : Result Next}, (callFunc g (xs ++ args.map a.eval ++ ys)).run P w = r → (execOp a.eval ⟨dst, .call ⟨.value f, args, argTypes⟩, ty, pos, after, guard⟩).run P w = r := fun hh => by
          rw [← hh]
          simp only [execOp, resolve, e', Deferred.ofValue, Sem.run_bind, Sem.run_pure, Result.andThen_ok, invoke]
        rcases callF_sim hC hih h hall hH with ⟨u, w', hrun, hE⟩ | ⟨hrun, hcalls⟩
        · exact wpIn_value hF (by simp) (hx hrun) (k _ _ hE)
        · refine ⟨fun f _ => hF.1 f, ?_⟩
          rw [semAt_of (by simp), hx hrun]
          refine ⟨wd_depth hF, ?_⟩
          obtain ⟨c1, c2⟩ := hcalls F (n - 1) hF
          refine ⟨c1, fun cs hroom => ?_⟩
          obtain ⟨e, w', fr, ⟨u, rfl, hE⟩, hc⟩ := c2 cs hroom
          exact ⟨_, w', fr, k _ _ hE, hc⟩
      · rename_i l as ef ea
        obtain ⟨bi, hb, e'⟩ := (hr f (by simp [Op.operands, Call.operands]) _ ef).yld_inv
        obtain ⟨ff, tmps, assign, body, hrun, hround⟩ := yieldF_sim hih h (hbr ea) hb hH
        refine ⟨fun f _ => hF.1 f, ?_⟩
        rw [semAt_of (by simp)]
        have hx : (execOp a.eval ⟨dst, .call ⟨.value f, args, argTypes⟩, ty, pos, after, guard⟩).run P w = .ok (.round bi.c ff tmps assign body) w := by
          rw [← hrun]
          simp [execOp, resolve, e', Deferred.ofValue, invoke]
        rw [hx]
        refine ⟨wd_depth hF, (hround F (n - 1) hF).mono ?_⟩
        rintro e w' ⟨u, rfl, hE⟩
        exact k _ _ hE
      · cases h
end Go.PI
