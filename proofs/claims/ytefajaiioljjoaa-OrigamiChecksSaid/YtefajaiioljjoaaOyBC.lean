/- Own work of the verifier: OyB OgAe OgAf OyC OgL OgM OgN OgO OgP. -/
import Derived.Test.YtefajaiioljjoaaOyBB
import Derived.Test.YtefajaiioljjoaaOyBA
import Derived.Test.YtefajaiioljjoaaOyAZ
import Derived.Test.YtefajaiioljjoaaOyAV
set_option linter.all false
set_option exponentiation.threshold 3000
set_option linter.deprecated false
/- THE COMPONENTS, of the program. -/
open Go.Proofs
namespace Go.PI
open IM
set_option maxRecDepth 10000
set_option maxHeartbeats 4000000
variable (S : FuncId → Option (List AV → Heap → Option (AV × Heap)))
theorem NL_pn {l : List Nat} : (NL l).map pn = l.map pnn := by unfold NL; rw [List.map_map]; rfl
theorem reached_cm (hS : OldO S) {σ0 : List StB} {r u : List Int} {n s : Nat} {f f' g g' : Nat → Nat} (ho : IsO r u n f f' g g') (hs : s < n) :
    Cm (ctx.plus S) 104 [pO r u, pn s] σ0 3000 fun w σ' => ∃ k jv, (bfs f g s k).length ≤ k ∧ (w = .own jv 0 (bfs f g s k).length (bfs f g s k).length 1 ∨ w = .ownu jv (bfs f g s k).length 1) ∧ σ'[jv]? = some (.live 3 ((NL (bfs f g s k)).map pn)) ∧ σ0.length ≤ jv ∧ σ0.length ≤ σ'.length ∧ ∀ (i : Nat) (b : StB), σ0[i]? = some b → σ'[i]? = some b := by
  have hn := ho.le
  have hlen := fun i => bfs_len (s := s) ho.pr ho.pu hs i
  refine cm_of Onum (hS 104 (by decide)) fn104 fun c k0 hcc => ?_
  refine ⟨by omega, ?_⟩
  refine callm (numberingFrom_cm S hS (x := s)) (by omega) ?_
  rintro _ σ1 ⟨j0, m0, v0, rfl, a1, a2, a3, a4, a5⟩
  rw [List.length_append, List.length_singleton] at a3 a4 a5
  refine ⟨fun q st => ∃ (i b j m : Nat) (v : PV) (σ : List StB) (T : List PV), st = ⟨T, σ, b⟩ ∧ Gt T 26 [(2, .optr σ0.length 0), (5, .optr j 0), (6, pn i)] ∧ q = n - i ∧ i ≤ n ∧ b ≤ k0 + 10 + 24 * i ∧ Hid (σ[σ0.length]? = some (.live 24 [pIs r, pIs u]) ∧ σ0.length < j ∧ σ0.length < m ∧ (∀ q, q ≤ σ0.length → blkOf v ≠ some q) ∧ (∀ (i : Nat) (b : StB), σ0[i]? = some b → σ[i]? = some b) ∧ Num σ j m v (bfs f g s i)), ⟨_, ci ⟨0, _, j0, m0, v0, _, _, rfl, ⟨rfl, rfl, rfl, rfl, trivial⟩, rfl, Nat.zero_le _, by omega, ⟨a2 σ0.length _ push_get, by omega, by omega, fun q hq => a5 q (by omega), fun i b hb => a2 i b (push_old hb), a1⟩⟩⟩, ?_⟩
  rintro _ st ⟨i, b, j, m, v, σ, T, rfl, hT, rfl, hi, hb, hh⟩
  obtain ⟨J, rfl⟩ := gt_open hT
  clear hT
  obtain ⟨c1, c2, c3, c4, c6, c5⟩ := hh.h
  clear hh
  obtain ⟨jl, hjl, hlv⟩ := c5.lv
  obtain ⟨jv, ty, hcv, hv⟩ := c5.gr.shape c5.ne
  have hliv := c5.liv
  have hL := hlen i
  have l0 := (List.getElem?_eq_some_iff.1 c1).1
  rcases hv with hv | hv
  all_goals
    rw [hv] at hliv
    refine ⟨_, load_liv hliv rfl rfl, ?_⟩
    refine ⟨fun hlt => ?_, fun hge => ?_⟩
    · have hil : i < (bfs f g s i).length := by omega
      obtain ⟨x, hx⟩ : ∃ x, (bfs f g s i)[i]? = some x := ⟨_, List.getElem?_eq_getElem hil⟩
      have hxn := bfs_lt ho.pr ho.pu hs i x (List.mem_of_getElem? hx)
      refine ⟨_, load_c (contOf_live c1) rfl rfl, ?_⟩
      refine callm (around_cm S hS ho c5 (by omega) hx hxn) (by omega) ?_
      rintro _ σ2 ⟨v2, rfl, e1, e2⟩
      rw [← nxt_at hx] at e1
      refine ⟨⟨by omega, by omega⟩, ?_⟩
      exact ⟨_, by omega, ci ⟨i + 1, _, j, m, v2, _, _, rfl, ⟨rfl, rfl, rfl, rfl, trivial⟩, rfl, by omega, by omega, ⟨e2.keep _ _ (by omega) (by omega) (c4 _ (Nat.le_refl _)) c1, c2, c3, fun q hq => e2.blk q (by omega) (c4 q hq), fun i b hb => by
        have := (List.getElem?_eq_some_iff.1 hb).1
        exact e2.keep i b (by omega) (by omega) (c4 i (by omega)) (c6 i b hb), e1⟩⟩⟩
    · refine ⟨_, load_liv hliv rfl rfl, ?_⟩
      have e : jl = jv := by rw [hv] at hjl; exact (Option.some.inj hjl).symm
      subst e
      have hge2 : ¬ jl ≤ σ0.length := fun hc => c4 jl hc hjl
      refine endm [] (by dsimp only; omega) ⟨i, jl, by omega, ?_, ?_, Nat.le_of_lt (Nat.lt_of_not_le hge2), Nat.le_of_lt l0, c6⟩
      · first | exact .inl rfl | exact .inr rfl
      · rw [NL_pn]; exact hlv
theorem fn64 : ctx.fn 64 = some c64 := by kernel_rfl
theorem components_ct (hS : OldO S) {r u : List Int} {n : Nat} {f f' g g' : Nat → Nat} (ho : IsO r u n f f' g g') (hn12 : n ≤ 12) :
    Ct (ctx.plus S) 64 [pO r u] 100000 fun w => w = pM (compsTo f g n n) := by
  have hn := ho.le
  have hrl := ho.l1.1
  subst hrl
  refine ct_of (hS 64 (by decide)) fn64 ?_
  refine ⟨by omega, ?_⟩
  refine ⟨_, rfl, ?_⟩
  refine ⟨by omega, ⟨by omega, by omega, by omega⟩, _, flg_zero, ?_⟩
  refine ⟨fun q st => ∃ (k b : Nat) (v : PV) (fl : List Bool) (σ : List StB) (T : List PV), st = ⟨T, σ, b⟩ ∧ Gt T 43 [(1, .optr 0 0), (3, v), (4, .own 1 0 r.length r.length 1), (14, pn r.length), (15, pn k)] ∧ q = r.length - k ∧ k ≤ r.length ∧ b ≤ 10 + 3100 * k ∧ Hid (σ[0]? = some (.live 24 [pIs r, pIs u]) ∧ σ[1]? = some (.live 4 (fl.map PV.bool)) ∧ blkOf v ≠ some 0 ∧ blkOf v ≠ some 1 ∧ Gr pIs 22 v σ (compsTo f g r.length k) ∧ Flg r.length f g k fl), ⟨_, ci ⟨0, _, .nils, _, _, _, rfl, ⟨rfl, rfl, rfl, rfl, rfl, rfl, trivial⟩, rfl, Nat.zero_le _, by omega, ⟨rfl, rfl, (fun h => by cases h), (fun h => by cases h), .nil, flg_zero0⟩⟩⟩, ?_⟩
  rintro _ st ⟨k, b, v, fl, σ, T, rfl, hT, rfl, hk, hb, hh⟩
  obtain ⟨J, rfl⟩ := gt_open hT
  clear hT
  obtain ⟨d0, d1, d2, d3, d4, d5⟩ := hh.h
  clear hh
  have l1 := (List.getElem?_eq_some_iff.1 d1).1
  refine ⟨fun hlt => ?_, fun hge => ?_⟩
  · have hkn : k < r.length := by omega
    obtain ⟨q, hq⟩ : ∃ q, fl[k]? = some q := ⟨fl[k]'(by have := d5.1; omega), List.getElem?_eq_getElem _⟩
    have hlow := flg_low ho.pr ho.pu hkn d5
    refine ⟨⟨by omega, by omega⟩, ?_⟩
    refine ⟨_, load_k rfl rfl (contOf_live d1) (at_map hq) (by show 0 + _ * 1 = k; omega), ?_⟩
    cases q with
    | true =>
      have hL := hlow.1 hq
      refine ⟨⟨by omega, by omega⟩, ?_⟩
      exact ⟨_, by omega, ci ⟨k + 1, _, v, fl, σ, _, rfl, ⟨rfl, rfl, rfl, rfl, rfl, rfl, trivial⟩, rfl, by omega, by omega, ⟨d0, d1, d2, d3, by rw [compsTo_no hL]; exact d4, flg_skip ho.pr ho.pu hkn d5 hL⟩⟩⟩
    | false =>
      have hL : Low f g k := Classical.byContradiction fun hc => by rw [hlow.2 hc] at hq; cases hq
      refine ⟨_, load_c (contOf_live d0) rfl rfl, ?_⟩
      refine callm (reached_cm S hS ho hkn) (by omega) ?_
      rintro w σ1 ⟨q, jv, hq1, hw, e1, e2, e2', e3⟩
      have hB := bfs_len ho.pr ho.pu hkn q
      have hBl : ∀ y ∈ bfs f g k q, y < r.length := bfs_lt ho.pr ho.pu hkn q
      obtain ⟨B, hBe⟩ : ∃ B, bfs f g k q = B := ⟨_, rfl⟩
      have hz0 : FlgTo r.length f g k B 0 fl := flgTo_zero d5
      rw [hBe] at hw e1 hB hBl
      have hj1 : jv ≠ 0 ∧ jv ≠ 1 := by omega
      have hvl : ∀ j, blkOf v = some j → j < σ.length := fun j hj => d4.blk hj
      have hvj : blkOf v ≠ some jv := fun e => by have := hvl _ e; omega
      have g4 : Gr pIs 22 v σ1 (compsTo f g r.length k) := d4.keep fun i b _ hb => e3 i b hb
      have hwv := hw
      rcases hw with rfl | rfl
      · refine ⟨fun z st => ∃ (j b' : Nat) (fl : List Bool) (σ : List StB) (T : List PV), st = ⟨T, σ, b'⟩ ∧ Gt T 43 [(1, .optr 0 0), (3, v), (4, .own 1 0 r.length r.length 1), (14, pn r.length), (15, pn k), (5, pn k), (6, .own jv 0 B.length B.length 1), (25, .own jv 0 B.length B.length 1), (26, pn B.length), (27, pn j)] ∧ z = B.length - j ∧ j ≤ B.length ∧ b' ≤ b + 3050 ∧ Hid (σ[0]? = some (.live 24 [pIs r, pIs u]) ∧ σ[1]? = some (.live 4 (fl.map PV.bool)) ∧ σ[jv]? = some (.live 3 ((NL B).map pn)) ∧ Gr pIs 22 v σ (compsTo f g r.length k) ∧ FlgTo r.length f g k B j fl), ⟨_, ci ⟨0, _, fl, _, _, rfl, ⟨rfl, rfl, rfl, rfl, rfl, rfl, rfl, rfl, rfl, rfl, rfl, trivial⟩, rfl, Nat.zero_le _, by omega, ⟨e3 0 _ d0, e3 1 _ d1, e1, g4, hz0⟩⟩⟩, ?_⟩
        clear d5 hq hlow d0 d1 d4 e1 e3 g4 hz0 l1
        rintro _ st ⟨j, b', fl, σ, T, rfl, hT, rfl, hj, hb', hh⟩
        obtain ⟨J, rfl⟩ := gt_open hT
        clear hT
        obtain ⟨d0, d1, e1, g4, hz⟩ := hh.h
        clear hh
        have l1 := (List.getElem?_eq_some_iff.1 d1).1
        have hfl := hz.1
        refine ⟨fun hlt2 => ?_, fun hge2 => ?_⟩
        · have hjl : j < B.length := by omega
          obtain ⟨x, hx⟩ : ∃ x, B[j]? = some x := ⟨_, List.getElem?_eq_getElem hjl⟩
          have hxn := hBl x (List.mem_of_getElem? hx)
          refine ⟨⟨by omega, by omega⟩, ?_⟩
          refine ⟨_, load_k rfl rfl (contOf_live e1) (at_map (NL_get hx)) (by show 0 + _ * 1 = j; omega), ?_⟩
          refine ⟨⟨by omega, by omega⟩, ?_⟩
          refine ⟨_, _, d1, ⟨rfl, by rw [List.length_map]; show 0 + x * 1 + 1 ≤ _; omega, rfl⟩, _, flg_put (by show 0 + x * 1 = x; omega) (by omega), _, rfl, ?_⟩
          refine ⟨⟨by omega, by omega⟩, ?_⟩
          exact ⟨_, by omega, ci ⟨j + 1, _, fl.set x true, _, _, rfl, ⟨rfl, rfl, rfl, rfl, rfl, rfl, rfl, rfl, rfl, rfl, rfl, trivial⟩, rfl, by omega, by omega, ⟨by rw [List.getElem?_set_ne (by omega)]; exact d0, List.getElem?_set_self l1, by rw [List.getElem?_set_ne (by omega)]; exact e1, g4.keep fun i b hi hb => by
            rw [List.getElem?_set_ne (fun e => d3 (by rw [e]; exact hi))]; exact hb, flgTo_next hz hx hxn⟩⟩⟩
        · have hjB : j = B.length := by omega
          rw [hjB] at hz
          refine callm (sort_cm S hS hwv e1 NL_len (by omega)) (by omega) ?_
          rintro _ σ2 ⟨rfl, zs, s1, s2⟩
          have hzl : zs.length = B.length := by rw [s1.perm.length_eq, NL_len]
          have hzs : zs = NL (compTo f g k r.length) := by
            refine srt_comp ho.pr ho.pu hkn hq1 ?_ (by rw [hzl]; exact s2)
            rw [hBe]; exact s1.perm
          have hcn : Cn pn (.own jv 0 B.length B.length 1) σ2 zs := .inr ⟨jv, 3, contOf_live s1.at', by rw [hzl]; exact hwv⟩
          obtain ⟨σ3, f3, -, f4, f5⟩ := hcn.fz
          have hnj : ∀ i b, i ≠ jv → σ[i]? = some b → σ3[i]? = some b := fun i b hi hb => f5 i b (fun e => hi (Option.some.inj e).symm) (by rw [s1.keep i hi]; exact hb)
          refine ⟨by omega, part1 f3 ⟨[pIs zs], rfl, ?_⟩⟩
          have g5 : Gr pIs 22 v σ3 (compsTo f g r.length k) := g4.keep fun i b hi hb => hnj i b (fun e => hvj (by rw [← e]; exact hi)) hb
          have hcl : (compsTo f g r.length k).length ≤ k := by rw [compsTo_len]; exact lows_len
          refine appG (f := pIs) (e := 22) (y := zs) g5.push push_cont rfl rfl rfl rfl (by kernel_rfl) rfl rfl (by omega) (by omega) fun v' σ4 hv' hkp hbv => ?_
          have h0 := hkp 0 _ d2 (push_old (hnj 0 _ (by omega) d0))
          have h1 := hkp 1 _ d3 (push_old (hnj 1 _ (by omega) d1))
          have hne : ∀ q, q < σ.length → blkOf v' ≠ some q := fun q hq e => by
            rw [hbv] at e; have := Option.some.inj e; rw [List.length_append, List.length_singleton, f4, s1.len] at this; omega
          refine ⟨⟨by omega, by omega⟩, ?_⟩
          refine ⟨_, by omega, ci ⟨k + 1, _, v', fl, σ4, _, rfl, ⟨rfl, rfl, rfl, rfl, rfl, rfl, trivial⟩, rfl, by omega, by omega, ⟨h0, h1, hne 0 (by omega), hne 1 (by omega), ?_, ?_⟩⟩⟩
          · rw [compsTo_yes hL, ← hzs]; exact hv'
          · rw [← hBe] at hz
            exact flgTo_done hz hq1
      · refine ⟨fun z st => ∃ (j b' : Nat) (fl : List Bool) (σ : List StB) (T : List PV), st = ⟨T, σ, b'⟩ ∧ Gt T 43 [(1, .optr 0 0), (3, v), (4, .own 1 0 r.length r.length 1), (14, pn r.length), (15, pn k), (5, pn k), (6, .ownu jv B.length 1), (25, .ownu jv B.length 1), (26, pn B.length), (27, pn j)] ∧ z = B.length - j ∧ j ≤ B.length ∧ b' ≤ b + 3050 ∧ Hid (σ[0]? = some (.live 24 [pIs r, pIs u]) ∧ σ[1]? = some (.live 4 (fl.map PV.bool)) ∧ σ[jv]? = some (.live 3 ((NL B).map pn)) ∧ Gr pIs 22 v σ (compsTo f g r.length k) ∧ FlgTo r.length f g k B j fl), ⟨_, ci ⟨0, _, fl, _, _, rfl, ⟨rfl, rfl, rfl, rfl, rfl, rfl, rfl, rfl, rfl, rfl, rfl, trivial⟩, rfl, Nat.zero_le _, by omega, ⟨e3 0 _ d0, e3 1 _ d1, e1, g4, hz0⟩⟩⟩, ?_⟩
        clear d5 hq hlow d0 d1 d4 e1 e3 g4 hz0 l1
        rintro _ st ⟨j, b', fl, σ, T, rfl, hT, rfl, hj, hb', hh⟩
        obtain ⟨J, rfl⟩ := gt_open hT
        clear hT
        obtain ⟨d0, d1, e1, g4, hz⟩ := hh.h
        clear hh
        have l1 := (List.getElem?_eq_some_iff.1 d1).1
        have hfl := hz.1
        refine ⟨fun hlt2 => ?_, fun hge2 => ?_⟩
        · have hjl : j < B.length := by omega
          obtain ⟨x, hx⟩ : ∃ x, B[j]? = some x := ⟨_, List.getElem?_eq_getElem hjl⟩
          have hxn := hBl x (List.mem_of_getElem? hx)
          refine ⟨⟨by omega, by omega⟩, ?_⟩
          refine ⟨_, load_k rfl rfl (contOf_live e1) (at_map (NL_get hx)) (by show 0 + _ * 1 = j; omega), ?_⟩
          refine ⟨⟨by omega, by omega⟩, ?_⟩
          refine ⟨_, _, d1, ⟨rfl, by rw [List.length_map]; show 0 + x * 1 + 1 ≤ _; omega, rfl⟩, _, flg_put (by show 0 + x * 1 = x; omega) (by omega), _, rfl, ?_⟩
          refine ⟨⟨by omega, by omega⟩, ?_⟩
          exact ⟨_, by omega, ci ⟨j + 1, _, fl.set x true, _, _, rfl, ⟨rfl, rfl, rfl, rfl, rfl, rfl, rfl, rfl, rfl, rfl, rfl, trivial⟩, rfl, by omega, by omega, ⟨by rw [List.getElem?_set_ne (by omega)]; exact d0, List.getElem?_set_self l1, by rw [List.getElem?_set_ne (by omega)]; exact e1, g4.keep fun i b hi hb => by
            rw [List.getElem?_set_ne (fun e => d3 (by rw [e]; exact hi))]; exact hb, flgTo_next hz hx hxn⟩⟩⟩
        · have hjB : j = B.length := by omega
          rw [hjB] at hz
          refine callm (sort_cm S hS hwv e1 NL_len (by omega)) (by omega) ?_
          rintro _ σ2 ⟨rfl, zs, s1, s2⟩
          have hzl : zs.length = B.length := by rw [s1.perm.length_eq, NL_len]
          have hzs : zs = NL (compTo f g k r.length) := by
            refine srt_comp ho.pr ho.pu hkn hq1 ?_ (by rw [hzl]; exact s2)
            rw [hBe]; exact s1.perm
          have hcn : Cn pn (.ownu jv B.length 1) σ2 zs := .inr ⟨jv, 3, contOf_live s1.at', by rw [hzl]; exact hwv⟩
          obtain ⟨σ3, f3, -, f4, f5⟩ := hcn.fz
          have hnj : ∀ i b, i ≠ jv → σ[i]? = some b → σ3[i]? = some b := fun i b hi hb => f5 i b (fun e => hi (Option.some.inj e).symm) (by rw [s1.keep i hi]; exact hb)
          refine ⟨by omega, part1 f3 ⟨[pIs zs], rfl, ?_⟩⟩
          have g5 : Gr pIs 22 v σ3 (compsTo f g r.length k) := g4.keep fun i b hi hb => hnj i b (fun e => hvj (by rw [← e]; exact hi)) hb
          have hcl : (compsTo f g r.length k).length ≤ k := by rw [compsTo_len]; exact lows_len
          refine appG (f := pIs) (e := 22) (y := zs) g5.push push_cont rfl rfl rfl rfl (by kernel_rfl) rfl rfl (by omega) (by omega) fun v' σ4 hv' hkp hbv => ?_
          have h0 := hkp 0 _ d2 (push_old (hnj 0 _ (by omega) d0))
          have h1 := hkp 1 _ d3 (push_old (hnj 1 _ (by omega) d1))
          have hne : ∀ q, q < σ.length → blkOf v' ≠ some q := fun q hq e => by
            rw [hbv] at e; have := Option.some.inj e; rw [List.length_append, List.length_singleton, f4, s1.len] at this; omega
          refine ⟨⟨by omega, by omega⟩, ?_⟩
          refine ⟨_, by omega, ci ⟨k + 1, _, v', fl, σ4, _, rfl, ⟨rfl, rfl, rfl, rfl, rfl, rfl, trivial⟩, rfl, by omega, by omega, ⟨h0, h1, hne 0 (by omega), hne 1 (by omega), ?_, ?_⟩⟩⟩
          · rw [compsTo_yes hL, ← hzs]; exact hv'
          · rw [← hBe] at hz
            exact flgTo_done hz hq1
  · have hkn : k = r.length := by omega
    rw [hkn] at d4
    obtain ⟨σ', hf⟩ := d4.fz
    exact endf hf rfl
end Go.PI
/- A NUMBERING and what is built by it: what the store holds. -/
open Go.Proofs
namespace Go.PI
open IM
set_option maxRecDepth 10000
set_option maxHeartbeats 4000000
structure Own1 (σ0 σ : List StB) (L4 L5 L6 : Nat) (w v : PV) : Prop where
  out : ∀ q, blkOf v = some q → σ0.length ≤ q ∧ q < σ.length ∧ q ≠ L4 ∧ q ≠ L5 ∧ q ≠ L6 ∧ blkOf w ≠ some q
structure ML (σ0 σ : List StB) (j m : Nat) (v0 v vr vu : PV) (L4 L5 L6 : Nat) (P4 P5 : List PV) (xs X Y : List Nat) : Prop where
  jl : j < σ0.length
  ml : m < σ0.length
  l4 : σ0.length ≤ L4
  l5 : L4 < L5
  l6 : L5 < L6
  c4 : σ[L4]? = some (.liv 24 P4)
  c5 : σ[L5]? = some (.liv 24 P5)
  c6 : σ[L6]? = some (.liv 24 [vr, vu])
  num : Num σ j m v xs
  keep : ∀ (i : Nat) (b : StB), i ≠ j → i ≠ m → blkOf v0 ≠ some i → σ0[i]? = some b → σ[i]? = some b
  len : σ0.length ≤ σ.length
  old : ∀ i, i < σ0.length → blkOf v0 ≠ some i → blkOf v ≠ some i
  b4 : blkOf v ≠ some L4
  b5 : blkOf v ≠ some L5
  b6 : blkOf v ≠ some L6
  gr : Gr pnn 3 vr σ X
  gu : Gr pnn 3 vu σ Y
  sep : ∀ q, blkOf vr = some q → blkOf vu ≠ some q
  o1 : Own1 σ0 σ L4 L5 L6 v vr
  o2 : Own1 σ0 σ L4 L5 L6 v vu
theorem ML.lt6 {σ0 σ : List StB} {j m : Nat} {v0 v vr vu : PV} {L4 L5 L6 : Nat} {P4 P5 : List PV} {xs X Y : List Nat} (h : ML σ0 σ j m v0 v vr vu L4 L5 L6 P4 P5 xs X Y) : L6 < σ.length := (List.getElem?_eq_some_iff.1 h.c6).1
theorem ML.around {σ0 σ σ2 : List StB} {j m : Nat} {v0 v v2 vr vu : PV} {L4 L5 L6 : Nat} {P4 P5 : List PV} {xs xs2 X Y : List Nat} (h : ML σ0 σ j m v0 v vr vu L4 L5 L6 P4 P5 xs X Y) (e1 : Num σ2 j m v2 xs2) (e2 : NF σ σ2 j m v v2) : ML σ0 σ2 j m v0 v2 vr vu L4 L5 L6 P4 P5 xs2 X Y := by
  have hl6 := h.lt6
  have a1 := h.jl
  have a2 := h.ml
  have a3 := h.l4
  have a4 := h.l5
  have a5 := h.l6
  have hlen := h.len
  have ow : ∀ {w : PV}, Own1 σ0 σ L4 L5 L6 v w → Own1 σ0 σ2 L4 L5 L6 v2 w := fun {w} o => ⟨fun q hq => by
    obtain ⟨b1, b2, b3, b4, b5, b6⟩ := o.out q hq
    exact ⟨b1, Nat.lt_of_lt_of_le b2 e2.len, b3, b4, b5, e2.blk q b2 b6⟩⟩
  have kg : ∀ {w : PV} {Z : List Nat}, Own1 σ0 σ L4 L5 L6 v w → Gr pnn 3 w σ Z → Gr pnn 3 w σ2 Z := fun {w Z} o g => g.keep fun i b hi hb => by
    obtain ⟨b1, b2, b3, b4, b5, b6⟩ := o.out i hi
    exact e2.keep i b (by omega) (by omega) b6 hb
  exact ⟨a1, a2, a3, a4, a5, e2.keep L4 _ (by omega) (by omega) h.b4 h.c4, e2.keep L5 _ (by omega) (by omega) h.b5 h.c5, e2.keep L6 _ (by omega) (by omega) h.b6 h.c6, e1,
    fun i b h1 h2 h3 h4 => e2.keep i b h1 h2 (h.old i (List.getElem?_eq_some_iff.1 h4).1 h3) (h.keep i b h1 h2 h3 h4), Nat.le_trans hlen e2.len,
    fun i hi h3 => e2.blk i (Nat.lt_of_lt_of_le hi hlen) (h.old i hi h3), e2.blk L4 (by omega) h.b4, e2.blk L5 (by omega) h.b5, e2.blk L6 hl6 h.b6, kg h.o1 h.gr, kg h.o2 h.gu, h.sep, ow h.o1, ow h.o2⟩
theorem ML.push {σ0 σ : List StB} {j m : Nat} {v0 v vr vu : PV} {L4 L5 L6 : Nat} {P4 P5 : List PV} {xs X Y : List Nat} {b : StB} (h : ML σ0 σ j m v0 v vr vu L4 L5 L6 P4 P5 xs X Y) : ML σ0 (σ ++ [b]) j m v0 v vr vu L4 L5 L6 P4 P5 xs X Y := by
  have ow : ∀ {w : PV}, Own1 σ0 σ L4 L5 L6 v w → Own1 σ0 (σ ++ [b]) L4 L5 L6 v w := fun {w} o => ⟨fun q hq => by
    obtain ⟨b1, b2, b3⟩ := o.out q hq
    exact ⟨b1, by rw [List.length_append]; omega, b3⟩⟩
  exact ⟨h.jl, h.ml, h.l4, h.l5, h.l6, push_old h.c4, push_old h.c5, push_old h.c6, h.num.push, fun i x h1 h2 h3 h4 => push_old (h.keep i x h1 h2 h3 h4), by rw [List.length_append]; have := h.len; omega, h.old, h.b4, h.b5, h.b6, h.gr.push, h.gu.push, h.sep, ow h.o1, ow h.o2⟩
theorem ML.with {σ0 σ σ3 : List StB} {j m : Nat} {v0 v vr vu vr' vu' : PV} {L4 L5 L6 : Nat} {P4 P5 : List PV} {xs X Y X' Y' : List Nat} (h : ML σ0 σ j m v0 v vr vu L4 L5 L6 P4 P5 xs X Y)
    (w1 : Gr pnn 3 vr' σ3 X') (w2 : Gr pnn 3 vu' σ3 Y') (w3 : ∀ q, blkOf vr' = some q → blkOf vu' ≠ some q) (w4 : σ.length ≤ σ3.length) (w5 : ∀ i bl, blkOf vr ≠ some i → blkOf vu ≠ some i → σ[i]? = some bl → σ3[i]? = some bl) (w6 : ∀ i, i < σ.length → blkOf vr' ≠ some i ∧ blkOf vu' ≠ some i) :
    ML σ0 (σ3.set L6 (.liv 24 [vr', vu'])) j m v0 v vr' vu' L4 L5 L6 P4 P5 xs X' Y' := by
  have hl6 := h.lt6
  have a1 := h.jl
  have a2 := h.ml
  have a3 := h.l4
  have a4 := h.l5
  have a5 := h.l6
  have hlen := h.len
  have hvb : ∀ q, blkOf v = some q → q < σ.length := fun q hq => h.num.gr.blk hq
  have lo : ∀ i, i < σ0.length → blkOf vr ≠ some i ∧ blkOf vu ≠ some i := fun i hi => ⟨fun e => by have := (h.o1.out i e).1; omega, fun e => by have := (h.o2.out i e).1; omega⟩
  have n4 : blkOf vr ≠ some L4 ∧ blkOf vu ≠ some L4 := ⟨fun e => (h.o1.out _ e).2.2.1 rfl, fun e => (h.o2.out _ e).2.2.1 rfl⟩
  have n5 : blkOf vr ≠ some L5 ∧ blkOf vu ≠ some L5 := ⟨fun e => (h.o1.out _ e).2.2.2.1 rfl, fun e => (h.o2.out _ e).2.2.2.1 rfl⟩
  have nv : ∀ q, blkOf v = some q → blkOf vr ≠ some q ∧ blkOf vu ≠ some q := fun q hq => ⟨fun e => (h.o1.out _ e).2.2.2.2.2 hq, fun e => (h.o2.out _ e).2.2.2.2.2 hq⟩
  have ow : ∀ {w : PV} {Z : List Nat}, Gr pnn 3 w σ3 Z → (∀ i, i < σ.length → blkOf w ≠ some i) → Own1 σ0 (σ3.set L6 (.liv 24 [vr', vu'])) L4 L5 L6 v w := fun {w Z} g hw => ⟨fun q hq => by
    have hge : ¬ q < σ.length := fun hlt => hw q hlt hq
    have := g.blk hq
    exact ⟨by omega, by rw [List.length_set]; omega, by omega, by omega, by omega, fun e => hge (hvb q e)⟩⟩
  have kg : ∀ {w : PV} {Z : List Nat}, Gr pnn 3 w σ3 Z → (∀ i, i < σ.length → blkOf w ≠ some i) → Gr pnn 3 w (σ3.set L6 (.liv 24 [vr', vu'])) Z := fun {w Z} g hw => g.keep fun i b hi hb => by
    rw [List.getElem?_set_ne (fun e => hw L6 hl6 (by rw [e]; exact hi))]; exact hb
  have w6a := fun i hi => (w6 i hi).1
  have w6b := fun i hi => (w6 i hi).2
  refine ⟨a1, a2, a3, a4, a5, ?_, ?_, List.getElem?_set_self (by omega), ?_, fun i b h1 h2 h3 h4 => ?_, by rw [List.length_set]; omega, h.old, h.b4, h.b5, h.b6, kg w1 w6a, kg w2 w6b, w3, ow w1 w6a, ow w2 w6b⟩
  · rw [List.getElem?_set_ne (by omega)]; exact w5 _ _ n4.1 n4.2 h.c4
  · rw [List.getElem?_set_ne (by omega)]; exact w5 _ _ n5.1 n5.2 h.c5
  · refine (h.num.keep fun i b hi hb => w5 i b ?_ ?_ hb).set (by omega) (by omega) h.b6
    · rcases hi with rfl | rfl | hi
      · exact (lo _ a1).1
      · exact (lo _ a2).1
      · exact (nv i hi).1
    · rcases hi with rfl | rfl | hi
      · exact (lo _ a1).2
      · exact (lo _ a2).2
      · exact (nv i hi).2
  · have hi := (List.getElem?_eq_some_iff.1 h4).1
    rw [List.getElem?_set_ne (by omega)]
    exact w5 i b (lo i hi).1 (lo i hi).2 (h.keep i b h1 h2 h3 h4)
def LS (R B : List Int) (i : Nat) (lb : Bool) : Prop := (lb = false ∧ B ≠ [] ∧ R.take i = B.take i) ∨ (lb = true ∧ (B = [] ∨ Lt R B))
theorem LS.eq {R B : List Int} {i : Nat} {a b : Int} (h : LS R B i false) (ha : R[i]? = some a) (hb : B[i]? = some b) (e : a = b) : LS R B (i + 1) false := by
  rcases h with ⟨-, h1, h2⟩ | ⟨h, -⟩
  · exact .inl ⟨rfl, h1, by rw [take_snoc ha, take_snoc hb, h2, e]⟩
  · cases h
theorem LS.lt {R B : List Int} {i : Nat} {a b : Int} (h : LS R B i false) (ha : R[i]? = some a) (hb : B[i]? = some b) (e : a < b) : LS R B (i + 1) true := by
  rcases h with ⟨-, h1, h2⟩ | ⟨h, -⟩
  · exact .inr ⟨rfl, .inr ((lt_at h2 ha hb (by omega)).2 e)⟩
  · cases h
theorem LS.tr {R B : List Int} {i : Nat} (h : LS R B i true) : LS R B (i + 1) true := by
  rcases h with ⟨h, -⟩ | h
  · cases h
  · exact .inr h
end Go.PI
/- A NUMBERING that may come first. -/
open Go.Proofs
namespace Go.PI
open IM
set_option maxRecDepth 10000
set_option maxHeartbeats 4000000
variable (S : FuncId → Option (List AV → Heap → Option (AV × Heap)))
theorem fz2 {σ : List StB} {vr vu : PV} {X Y : List Nat} (cr : Cn pnn vr σ X) (cu : Cn pnn vu σ Y) : ∃ σ2, Fz (.agg [vr, vu]) σ (pO (NL X) (NL Y)) σ2 ∧ ∀ i b, blkOf vr ≠ some i → blkOf vu ≠ some i → σ[i]? = some b → σ2[i]? = some b := by
  obtain ⟨σ1, f1, c1, l1, k1⟩ := cr.fz
  obtain ⟨σ2, f2, c2, l2, k2⟩ := (cu.same c1).fz
  rw [pIs_NL] at f1 f2
  have h1 : ∀ K : PV → List StB → Prop, K (pIs (NL X)) σ1 → frzK σ vr K := fun K hK => by
    have := f1 K hK
    rcases cr with ⟨rfl, -⟩ | ⟨j, ty, -, rfl | rfl⟩ <;> exact this
  have h2 : ∀ K : PV → List StB → Prop, K (pIs (NL Y)) σ2 → frzK σ1 vu K := fun K hK => by
    have := f2 K hK
    rcases cu with ⟨rfl, -⟩ | ⟨j, ty, -, rfl | rfl⟩ <;> exact this
  exact ⟨σ2, fun K hK => h1 (fun p σ' => frzsK σ' [vu] fun ps σ'' => K (.agg (p :: ps)) σ'') (h2 (fun p σ'' => K (.agg [pIs (NL X), p]) σ'') hK), fun i b a1 a2 hb => k2 i b a2 (k1 i b a1 hb)⟩
theorem ML.fin {σ0 σ σa : List StB} {j m : Nat} {v0 v vr vu : PV} {L4 L5 L6 : Nat} {P4 P5 : List PV} {xs X Y : List Nat} (h : ML σ0 σ j m v0 v vr vu L4 L5 L6 P4 P5 xs X Y) (ka : ∀ i b, blkOf vu ≠ some i → σ[i]? = some b → σa[i]? = some b) (cr : Cn pnn vr σa X) (cu : Cn pnn vu σa Y) :
    ∃ σ2, Fz (.agg [vr, vu]) σa (pO (NL X) (NL Y)) σ2 ∧ Num σ2 j m v xs ∧ (∀ (i : Nat) (b : StB), i ≠ j → i ≠ m → blkOf v0 ≠ some i → σ0[i]? = some b → σ2[i]? = some b) ∧ ∀ i b, σ.length ≤ i → σa[i]? = some b → σ2[i]? = some b := by
  obtain ⟨σ2, f2, k2⟩ := fz2 cr cu
  have lo : ∀ i, i < σ0.length → blkOf vr ≠ some i ∧ blkOf vu ≠ some i := fun i hi => ⟨fun e => by have := (h.o1.out i e).1; omega, fun e => by have := (h.o2.out i e).1; omega⟩
  have nv : ∀ q, blkOf v = some q → blkOf vr ≠ some q ∧ blkOf vu ≠ some q := fun q hq => ⟨fun e => (h.o1.out _ e).2.2.2.2.2 hq, fun e => (h.o2.out _ e).2.2.2.2.2 hq⟩
  refine ⟨σ2, f2, h.num.keep fun i b hi hb => ?_, fun i b h1 h2 h3 h4 => ?_, fun i b hi hb => k2 i b (fun e => by have := (h.o1.out i e).2.1; omega) (fun e => by have := (h.o2.out i e).2.1; omega) hb⟩
  · have hh : blkOf vr ≠ some i ∧ blkOf vu ≠ some i := by
      rcases hi with rfl | rfl | hi
      · exact lo _ h.jl
      · exact lo _ h.ml
      · exact nv i hi
    exact k2 i b hh.1 hh.2 (ka i b hh.2 hb)
  · have hh := lo i (List.getElem?_eq_some_iff.1 h4).1
    exact k2 i b hh.1 hh.2 (ka i b hh.2 (h.keep i b h1 h2 h3 h4))
theorem set_same {σ : List StB} {q : Nat} {x : StB} (h : σ[q]? = some x) : σ.set q x = σ := by
  apply List.ext_getElem?
  intro i
  by_cases e : q = i
  · subst e
    rw [List.getElem?_set_self (List.getElem?_eq_some_iff.1 h).1, h]
  · rw [List.getElem?_set_ne e]
theorem sm_agg {vr vu : PV} {σ : List StB} {X Y : List Nat} (h1 : Gr pnn 3 vr σ X) (h2 : Gr pnn 3 vu σ Y) : smP (.agg [vr, vu]) = true := by
  rcases h1 with ⟨rfl, -⟩ | ⟨_, _, rfl, -⟩ | ⟨_, rfl, -⟩ <;> rcases h2 with ⟨rfl, -⟩ | ⟨_, _, rfl, -⟩ | ⟨_, rfl, -⟩ <;> rfl
end Go.PI
/- A PART, of the program. -/
open Go.Proofs
namespace Go.PI
open IM
set_option maxRecDepth 10000
set_option maxHeartbeats 4000000
variable (S : FuncId → Option (List AV → Heap → Option (AV × Heap)))
theorem take_add {C : List Nat} {i x : Nat} (hC : C.Nodup) (hx : C[i]? = some x) : addL (C.take (max 1 i)) x = C.take (max 1 (i + 1)) := by
  rw [show max 1 (i + 1) = i + 1 by omega]
  have hs : C.take (i + 1) = C.take i ++ [x] := by rw [List.take_add_one, hx]; rfl
  by_cases h0 : i = 0
  · subst h0
    rw [show max 1 0 = 0 + 1 by omega, hs]
    unfold addL
    rw [if_pos (by simp)]
  · rw [show max 1 i = i by omega, hs]
    refine addL_out fun hm => ?_
    have h2 : (C.take i ++ [x]).Nodup := by rw [← hs]; exact List.Sublist.nodup (List.take_sublist _ _) hC
    exact (List.nodup_append.1 h2).2.2 x hm x (List.mem_singleton.2 rfl) rfl
def pX (C : List Nat) (f : Nat → Nat) (k : Nat) : List Nat := (C.take k).map fun x => C.idxOf (f x)
theorem pX_succ {C : List Nat} {f : Nat → Nat} {k x : Nat} (h : C[k]? = some x) : pX C f (k + 1) = pX C f k ++ [C.idxOf (f x)] := by
  unfold pX
  rw [List.take_add_one, h, List.map_append]
  rfl
theorem pX_len {C : List Nat} {f : Nat → Nat} {k : Nat} (h : k ≤ C.length) : (pX C f k).length = k := by unfold pX; rw [List.length_map, List.length_take]; omega
theorem NL_idx {x : Nat} : ∀ {l : List Nat}, (NL l).idxOf (x : Int) = l.idxOf x
  | [] => rfl
  | y :: l => by
    show ((y : Int) :: NL l).idxOf (x : Int) = (y :: l).idxOf x
    rw [List.idxOf_cons, List.idxOf_cons, NL_idx]
    by_cases e : y = x
    · subst e; simp
    · have h1 : ((y : Int) == (x : Int)) = false := by simp; omega
      have h2 : (y == x) = false := by simp [e]
      rw [h1, h2]
theorem NL_pX {C : List Nat} {f : Nat → Nat} {k : Nat} (h : ∀ x ∈ C, f x ∈ C) : NL (pX C f k) = ptL C f k := by
  unfold NL pX ptL
  rw [List.map_map]
  refine List.map_congr_left fun x hx => ?_
  have hm : (f x : Int) ∈ NL C := List.mem_map.2 ⟨_, h x (List.mem_of_mem_take hx), rfl⟩
  show ((C.idxOf (f x) : Nat) : Int) = idx (NL C) (f x)
  unfold idx
  rw [if_pos hm, NL_idx]
structure PT (r u : List Int) (σ : List StB) (j m L : Nat) (v vr vu : PV) (C X Y : List Nat) : Prop where
  c0 : σ[0]? = some (.liv 24 [pIs r, pIs u])
  c1 : σ[1]? = some (.liv 24 [.nils, .nils])
  cL : σ[L]? = some (.liv 24 [vr, vu])
  num : Num σ j m v C
  gr : Gr pnn 3 vr σ X
  gu : Gr pnn 3 vu σ Y
  sep : ∀ q, blkOf vr = some q → blkOf vu ≠ some q
  out : ∀ q, q = 0 ∨ q = 1 ∨ q = L → q ≠ j ∧ q ≠ m ∧ blkOf v ≠ some q ∧ blkOf vr ≠ some q ∧ blkOf vu ≠ some q
  nr : ∀ q, blkOf vr = some q ∨ blkOf vu = some q → q ≠ j ∧ q ≠ m ∧ blkOf v ≠ some q
  l1 : 1 < L
theorem PT.around {r u : List Int} {σ σ2 : List StB} {j m L : Nat} {v v2 vr vu : PV} {C X Y : List Nat} (h : PT r u σ j m L v vr vu C X Y) (e1 : Num σ2 j m v2 C) (e2 : NF σ σ2 j m v v2) : PT r u σ2 j m L v2 vr vu C X Y := by
  have kp : ∀ q b, q = 0 ∨ q = 1 ∨ q = L → σ[q]? = some b → σ2[q]? = some b := fun q b hq hb => e2.keep q b (h.out q hq).1 (h.out q hq).2.1 (h.out q hq).2.2.1 hb
  have lt : ∀ q, q = 0 ∨ q = 1 ∨ q = L → q < σ.length := fun q hq => by
    rcases hq with rfl | rfl | rfl
    · exact (List.getElem?_eq_some_iff.1 h.c0).1
    · exact (List.getElem?_eq_some_iff.1 h.c1).1
    · exact (List.getElem?_eq_some_iff.1 h.cL).1
  refine ⟨kp 0 _ (.inl rfl) h.c0, kp 1 _ (.inr (.inl rfl)) h.c1, kp L _ (.inr (.inr rfl)) h.cL, e1, h.gr.keep fun q b hq hb => ?_, h.gu.keep fun q b hq hb => ?_, h.sep, fun q hq => ?_, fun q hq => ?_, h.l1⟩
  · exact e2.keep q b (h.nr q (.inl hq)).1 (h.nr q (.inl hq)).2.1 (h.nr q (.inl hq)).2.2 hb
  · exact e2.keep q b (h.nr q (.inr hq)).1 (h.nr q (.inr hq)).2.1 (h.nr q (.inr hq)).2.2 hb
  · have := h.out q hq
    exact ⟨this.1, this.2.1, e2.blk q (lt q hq) this.2.2.1, this.2.2.2⟩
  · have := h.nr q hq
    exact ⟨this.1, this.2.1, e2.blk q (hq.elim h.gr.blk h.gu.blk) this.2.2⟩
theorem PT.with {r u : List Int} {σ σ2 : List StB} {j m L : Nat} {v vr vu vr2 vu2 : PV} {C X Y X2 Y2 : List Nat} (h : PT r u σ j m L v vr vu C X Y) (hr : Gr pnn 3 vr2 σ2 X2) (hu : Gr pnn 3 vu2 σ2 Y2) (hs : ∀ q, blkOf vr2 = some q → blkOf vu2 ≠ some q) (hk : ∀ i bl, blkOf vr ≠ some i → blkOf vu ≠ some i → σ[i]? = some bl → σ2[i]? = some bl) (hn : ∀ i, i < σ.length → blkOf vr2 ≠ some i ∧ blkOf vu2 ≠ some i) :
    PT r u (σ2.set L (.liv 24 [vr2, vu2])) j m L v vr2 vu2 C X2 Y2 := by
  have kp : ∀ q b, q = 0 ∨ q = 1 ∨ q = L → σ[q]? = some b → σ2[q]? = some b := fun q b hq hb => hk q b (h.out q hq).2.2.2.1 (h.out q hq).2.2.2.2 hb
  have lt : ∀ q, q = 0 ∨ q = 1 ∨ q = L → q < σ.length := fun q hq => by
    rcases hq with rfl | rfl | rfl
    · exact (List.getElem?_eq_some_iff.1 h.c0).1
    · exact (List.getElem?_eq_some_iff.1 h.c1).1
    · exact (List.getElem?_eq_some_iff.1 h.cL).1
  have l1 := h.l1
  have nL := h.out L (.inr (.inr rfl))
  have hL := (List.getElem?_eq_some_iff.1 (kp L _ (.inr (.inr rfl)) h.cL)).1
  have hlt := lt L (.inr (.inr rfl))
  have nv : ∀ i b, (i = j ∨ i = m ∨ blkOf v = some i) → σ[i]? = some b → (σ2.set L (.liv 24 [vr2, vu2]))[i]? = some b := fun i b hi hb => by
    have h1 : blkOf vr ≠ some i ∧ blkOf vu ≠ some i := ⟨fun e => by have := h.nr i (.inl e); rcases hi with hi | hi | hi; exact this.1 hi; exact this.2.1 hi; exact this.2.2 hi, fun e => by have := h.nr i (.inr e); rcases hi with hi | hi | hi; exact this.1 hi; exact this.2.1 hi; exact this.2.2 hi⟩
    rw [List.getElem?_set_ne (fun e => by subst e; rcases hi with hi | hi | hi; exact nL.1 hi; exact nL.2.1 hi; exact nL.2.2.1 hi)]
    exact hk i b h1.1 h1.2 hb
  refine ⟨?_, ?_, List.getElem?_set_self hL, h.num.keep nv, hr.keep fun q b hq hb => ?_, hu.keep fun q b hq hb => ?_, hs, fun q hq => ?_, fun q hq => ?_, l1⟩
  · rw [List.getElem?_set_ne (by omega)]; exact kp 0 _ (.inl rfl) h.c0
  · rw [List.getElem?_set_ne (by omega)]; exact kp 1 _ (.inr (.inl rfl)) h.c1
  · rw [List.getElem?_set_ne (fun e => (hn L hlt).1 (by rw [e]; exact hq))]; exact hb
  · rw [List.getElem?_set_ne (fun e => (hn L hlt).2 (by rw [e]; exact hq))]; exact hb
  · have := h.out q hq
    exact ⟨this.1, this.2.1, this.2.2.1, hn q (lt q hq)⟩
  · have big : ¬ q < σ.length := fun hl => by
      rcases hq with hq | hq
      · exact (hn q hl).1 hq
      · exact (hn q hl).2 hq
    refine ⟨fun e => big (by rw [e]; exact h.num.jl), fun e => big (by rw [e]; exact h.num.ml), fun e => big ?_⟩
    exact h.num.gr.blk e
theorem gr_det {vr vu : PV} {σ : List StB} {X Y : List Nat} (h1 : Gr pnn 3 vr σ X) (h2 : Gr pnn 3 vu σ Y) : detL [vr, vu] = true := by
  rcases h1 with ⟨rfl, -⟩ | ⟨_, _, rfl, -⟩ | ⟨_, rfl, -⟩ <;> rcases h2 with ⟨rfl, -⟩ | ⟨_, _, rfl, -⟩ | ⟨_, rfl, -⟩ <;> rfl
def Opp : Opn := ⟨fun t => Nat.beq t 24 || Nat.beq t 1000000, fun t => Nat.beq t 24 || Nat.beq t 22, false⟩
theorem fn66 : ctx.fn 66 = some c66 := by kernel_rfl
theorem part_ct (hS : OldO S) {r u : List Int} {n : Nat} {f f' g g' : Nat → Nat} (ho : IsO r u n f f' g g') {C : List Nat} (hC : C.Nodup) (hne : C ≠ []) (hCn : ∀ x ∈ C, x < n) (hcf : ∀ x ∈ C, f x ∈ C) (hcg : ∀ x ∈ C, g x ∈ C) :
    Ct (ctx.plus S) 66 [pO r u, pIs (NL C)] 10000 fun w => w = pO (ptL C f C.length) (ptL C g C.length) := by
  have hn := ho.le
  have hCl : C.length ≤ n := by
    have := len_le_of hC (m := List.range n) fun y hy => List.mem_range.2 (hCn y hy)
    rwa [List.length_range] at this
  have hpos : 0 < C.length := List.length_pos_iff.2 hne
  have hnl : (NL C).length = C.length := NL_len
  obtain ⟨c0, hc0⟩ : ∃ x, C[0]? = some x := ⟨_, List.getElem?_eq_getElem hpos⟩
  refine ctO_of Opp (hS 66 (by decide)) fn66 ?_
  refine ⟨by omega, by omega, ?_⟩
  refine ⟨⟨⟨by omega, by omega⟩, len_map_le (by omega)⟩, ?_⟩
  refine ⟨_, ld (at_map (NL_get hc0)) (by show _ * 1 = 0; omega), ?_⟩
  refine callm (numberingFrom_cm S hS (x := c0)) (by omega) ?_
  rintro _ σ1 ⟨j, m, v0, rfl, a1, a2, a3, a4, a5⟩
  have a1 : Num σ1 j m v0 (C.take (max 1 0)) := by
    have e : C.take (max 1 0) = [c0] := by
      rw [show max 1 0 = 0 + 1 by omega, List.take_add_one, hc0]; rfl
    rw [e]; exact a1
  refine ⟨fun q st => ∃ (i b : Nat) (v : PV) (σ : List StB) (T : List PV), st = ⟨T, σ, b⟩ ∧ Gt T 37 [(1, pIs (NL C)), (2, .optr 0 0), (4, .optr 1 0), (5, .optr j 0), (14, pIs (NL C)), (15, pn (NL C).length), (16, pn i)] ∧ q = C.length - i ∧ i ≤ C.length ∧ b ≤ 10 + 5 * i ∧ Hid (σ[0]? = some (.liv 24 [pIs r, pIs u]) ∧ σ[1]? = some (.liv 24 [.nils, .nils]) ∧ 1 < j ∧ 1 < m ∧ (∀ q, q ≤ 1 → blkOf v ≠ some q) ∧ Num σ j m v (C.take (max 1 i))), ⟨_, ci ⟨0, _, v0, _, _, rfl, ⟨rfl, rfl, rfl, rfl, rfl, rfl, rfl, rfl, trivial⟩, rfl, Nat.zero_le _, by omega, ⟨a2 0 _ rfl, a2 1 _ rfl, by simp at a3; omega, by simp at a4; omega, fun q hq => a5 q (by simp; omega), a1⟩⟩⟩, ?_⟩
  rintro _ st ⟨i, b, v, σ, T, rfl, hT, rfl, hi, hb, hh⟩
  obtain ⟨J, rfl⟩ := gt_open hT
  clear hT
  obtain ⟨d0, d1, dj, dm, dv, d5⟩ := hh.h
  clear hh a1 a2 a3 a4 a5
  refine ⟨fun hlt => ?_, fun hge => ?_⟩
  · have hil : i < C.length := by omega
    obtain ⟨x, hx⟩ : ∃ x, C[i]? = some x := ⟨_, List.getElem?_eq_getElem hil⟩
    refine ⟨⟨⟨by omega, by omega⟩, len_map_le (by omega)⟩, ?_⟩
    refine ⟨_, ld (at_map (NL_get hx)) (by show _ * 1 = i; omega), ?_⟩
    refine callm (number_cm S hS (x := x) d5 (by rw [List.length_take]; omega)) (by omega) ?_
    rintro _ σ2 ⟨v2, rfl, e1, e2⟩
    rw [take_add hC hx] at e1
    refine ⟨⟨by omega, by omega⟩, ?_⟩
    have k0 := e2.keep 0 _ (by omega) (by omega) (dv 0 (by omega)) d0
    have k1 := e2.keep 1 _ (by omega) (by omega) (dv 1 (by omega)) d1
    have hl2 := (List.getElem?_eq_some_iff.1 d1).1
    exact ⟨_, by omega, ci ⟨i + 1, _, v2, σ2, _, rfl, ⟨rfl, rfl, rfl, rfl, rfl, rfl, rfl, rfl, trivial⟩, rfl, by omega, by omega, ⟨k0, k1, dj, dm, fun q hq => e2.blk q (by omega) (dv q hq), e1⟩⟩⟩
  · have hin : i = C.length := by omega
    rw [show max 1 i = C.length by omega, List.take_length] at d5
    have hl2 := (List.getElem?_eq_some_iff.1 d1).1
    have hjl := d5.jl
    have hml := d5.ml
    refine ⟨by omega, ?_⟩
    have hP : PT r u (σ ++ [StB.liv 24 [.nils, .nils]]) j m σ.length v .nils .nils C (pX C f 0) (pX C g 0) :=
      ⟨push_old d0, push_old d1, push_get, d5.push, .nil, .nil, (fun q h => by cases h), fun q hq => ⟨by omega, by omega, fun e => by
        have := d5.gr.blk e
        rcases hq with rfl | rfl | rfl
        · exact dv 0 (by omega) e
        · exact dv 1 (by omega) e
        · omega, (fun h => by cases h), fun h => by cases h⟩, fun q hq => (by rcases hq with h | h <;> cases h), by omega⟩
    refine ⟨fun q st => ∃ (i b L : Nat) (v vr vu : PV) (σ : List StB) (T : List PV), st = ⟨T, σ, b⟩ ∧ Gt T 37 [(1, pIs (NL C)), (2, .optr 0 0), (4, .optr 1 0), (5, .optr j 0), (8, .optr L 0), (24, pIs (NL C)), (25, pn (NL C).length), (26, pn i)] ∧ q = C.length - i ∧ i ≤ C.length ∧ b ≤ 400 + 50 * i ∧ Hid (PT r u σ j m L v vr vu C (pX C f i) (pX C g i)), ⟨_, ci ⟨0, _, σ.length, v, .nils, .nils, _, _, rfl, ⟨rfl, rfl, rfl, rfl, rfl, rfl, rfl, rfl, rfl, trivial⟩, rfl, Nat.zero_le _, by omega, ⟨hP⟩⟩⟩, ?_⟩
    clear hP d0 d1 dj dm dv d5 hb hi hin hl2 hjl hml v σ
    rintro _ st ⟨i, b, L, v, vr, vu, σ, T, rfl, hT, rfl, hi, hb, hh⟩
    obtain ⟨J, rfl⟩ := gt_open hT
    clear hT
    have hP := hh.h
    clear hh
    refine ⟨fun hlt => ?_, fun hge => ?_⟩
    · have hil : i < C.length := by omega
      obtain ⟨x, hx⟩ : ∃ x, C[i]? = some x := ⟨_, List.getElem?_eq_getElem hil⟩
      have hxC := List.mem_of_getElem? hx
      refine ⟨some (4, 1, [(5, L)]), by kernel_rfl, ?_⟩
      refine ⟨rfl, ?_⟩
      refine ⟨_, load_liv hP.cL rfl rfl, sm_agg hP.gr hP.gu, ?_⟩
      refine ⟨_, load_liv hP.c0 rfl rfl, rfl, ?_⟩
      refine callm (around_cm S hS ho hP.num (by omega) hx (hCn x hxC)) (by omega) ?_
      rintro _ σ2 ⟨v2, rfl, e1, e2⟩
      rw [addL_in (hcf x hxC), addL_in (hcg x hxC)] at e1 ⊢
      have hP2 := hP.around e1 e2
      refine ⟨⟨⟨_, _, hP.cL, gr_det hP.gr hP.gu, hP2.cL⟩, trivial⟩, ?_⟩
      refine callm (with_cm S hS hP2.gr hP2.gu hP2.sep (by rw [pX_len (by omega)]; omega) (by rw [pX_len (by omega)]; omega)) (by omega) ?_
      rintro _ σ3 ⟨vr3, vu3, rfl, g1, g2, g3, g4, g5, g6⟩
      rw [← pX_succ hx] at g1 g2
      have hP3 := hP2.with g1 g2 g3 g5 g6
      have hL3 := g5 L _ (hP2.out L (.inr (.inr rfl))).2.2.2.1 (hP2.out L (.inr (.inr rfl))).2.2.2.2 hP2.cL
      have one1 := g1.cell
      have one2 := g2.cell
      refine ⟨_, _, hL3, ⟨rfl, Nat.le_of_ble_eq_true rfl, by show (vr3.one && (vu3.one && true)) = true; rw [one1.2, one2.2]; rfl⟩, _, rfl, _, rfl, ?_⟩
      refine ⟨⟨by omega, by omega⟩, ?_⟩
      exact ⟨_, by omega, ci ⟨i + 1, _, L, v2, vr3, vu3, _, _, rfl, ⟨rfl, rfl, rfl, rfl, rfl, rfl, rfl, rfl, rfl, trivial⟩, rfl, by omega, by omega, ⟨hP3⟩⟩⟩
    · have hin : i = C.length := by omega
      subst hin
      have g1 := hP.gr.cell
      have g2 := hP.gu.cell
      refine ⟨_, load_liv hP.cL rfl rfl, ?_⟩
      refine ⟨_, _, hP.c1, ⟨rfl, Nat.le_of_ble_eq_true rfl, by show (vr.one && (vu.one && true)) = true; rw [g1.2, g2.2]; rfl⟩, _, rfl, _, rfl, ?_⟩
      refine ⟨_, load_liv (List.getElem?_set_self (List.getElem?_eq_some_iff.1 hP.c1).1) rfl rfl, ?_⟩
      obtain ⟨σ4, hf, -⟩ := fz2 (σ := σ.set 1 (.liv 24 [vr, vu])) (hP.gr.keep fun q bl hq hbl => by rw [List.getElem?_set_ne (fun e => (hP.out 1 (.inr (.inl rfl))).2.2.2.1 (by rw [e]; exact hq))]; exact hbl).cn (hP.gu.keep fun q bl hq hbl => by rw [List.getElem?_set_ne (fun e => (hP.out 1 (.inr (.inl rfl))).2.2.2.2 (by rw [e]; exact hq))]; exact hbl).cn
      rw [NL_pX hcf, NL_pX hcg] at hf
      exact endf hf rfl
end Go.PI
/- DIRECTIONS: numbers, and how the squares are cut anew. -/
open Go.Proofs
namespace Go.PI
open IM
set_option maxRecDepth 10000
set_option maxHeartbeats 4000000
open Classical in
noncomputable def floorZ (p q : Int) : Int := if h : ∃ k, FloorIs p q k then h.choose else 0
structure TS where
  f : Nat → Nat
  f' : Nat → Nat
  g : Nat → Nat
  g' : Nat → Nat
  p : Int
  q : Int
def shf (f f' : Nat → Nat) (k : Int) : Nat → Nat := if 0 ≤ k then it f k.toNat else it f' (-k).toNat
noncomputable def TS.step (s : TS) : TS :=
  { f := fun i => shf s.f s.f' (floorZ s.p s.q) (s.g i), f' := fun i => s.g' (shf s.f' s.f (floorZ s.p s.q) i), g := s.f', g' := s.f, p := s.q, q := -(s.p - floorZ s.p s.q * s.q) }
noncomputable def TS.fin (s : TS) : TS := if s.p < 0 then { s with f := s.f', f' := s.f, g := s.g', g' := s.g } else s
structure TS.Ok (n : Nat) (s : TS) : Prop where
  pr : IsP n s.f s.f'
  pu : IsP n s.g s.g'
theorem it_isP {n : Nat} {f f' : Nat → Nat} (h : IsP n f f') (k : Nat) : IsP n (it f k) (it f' k) := ⟨fun i hi => it_lt h hi k, fun i hi => it_lt h.inv hi k, fun i hi => by
      induction k with
      | zero => rfl
      | succ k ih => rw [show it f (k + 1) i = f (it f k i) from rfl, it_succ', h.gf _ (it_lt h hi k), ih], fun i hi => by
      induction k with
      | zero => rfl
      | succ k ih => rw [show it f' (k + 1) i = f' (it f' k i) from rfl, it_succ', h.fg _ (it_lt h.inv hi k), ih]⟩
theorem shf_isP {n : Nat} {f f' : Nat → Nat} (h : IsP n f f') (k : Int) : IsP n (shf f f' k) (shf f' f k) := by
  unfold shf
  split
  · exact it_isP h _
  · exact it_isP h.inv _
theorem TS.Ok.step {n : Nat} {s : TS} (h : s.Ok n) : s.step.Ok n := ⟨h.pu.comp (shf_isP h.pr _), h.pr.inv⟩
theorem TS.Ok.fin {n : Nat} {s : TS} (h : s.Ok n) : s.fin.Ok n := by
  unfold TS.fin
  split
  · exact ⟨h.pr.inv, h.pu.inv⟩
  · exact h
def TS.ci (s : TS) : Nat → Nat := cmi s.f s.f' s.g s.g'
end Go.PI
/- DIRECTIONS: numbers, of the program and of the reference. -/
open Go.Proofs
namespace Go.PI
open IM
set_option maxRecDepth 10000
set_option maxHeartbeats 4000000
variable (S : FuncId → Option (List AV → Heap → Option (AV × Heap)))
end Go.PI
/- DIRECTIONS: origamis cut anew, by the program. -/
open Go.Proofs
namespace Go.PI
open IM
set_option maxRecDepth 10000
set_option maxHeartbeats 4000000
variable (S : FuncId → Option (List AV → Heap → Option (AV × Heap)))
end Go.PI
/- DIRECTIONS: of the reference; the law. -/
open Go.Proofs
namespace Go.PI
open IM
set_option maxRecDepth 10000
set_option maxHeartbeats 4000000
variable (S : FuncId → Option (List AV → Heap → Option (AV × Heap)))
end Go.PI
/- STRATA of the reference; the law of directions. -/
open Go.Proofs
namespace Go.PI
open IM
set_option maxRecDepth 10000
set_option maxHeartbeats 4000000
variable (S : FuncId → Option (List AV → Heap → Option (AV × Heap)))
theorem fn22 : ctx.fn 22 = some c22 := by kernel_rfl
theorem sameO_ct (hS : OldO S) {t b t' b' : List Int} (l1 : t.length ≤ 1000000) (l2 : b.length ≤ 1000000) (l3 : t'.length ≤ 1000000) (l4 : b'.length ≤ 1000000) :
    Ct (ctx.plus S) 22 [pO t b, pO t' b'] 2 fun r => r = .bool (decide (t = t' ∧ b = b')) := by
  refine ct_of (hS 22 (by decide)) fn22 ?_
  refine ⟨by omega, by omega, ?_⟩
  refine ⟨_, rfl, ?_⟩
  refine ⟨_, rfl, ?_⟩
  refine callq rfl (ints_ct S hS l1 l3) (by omega) ?_
  rintro _ rfl
  by_cases h1 : t = t'
  · rw [decide_eq_true h1]
    refine ⟨_, rfl, ?_⟩
    refine ⟨_, rfl, ?_⟩
    refine callq rfl (ints_ct S hS l2 l4) (by omega) ?_
    rintro _ rfl
    exact endq rfl (by simp [h1])
  · rw [decide_eq_false h1]
    exact endq rfl (by simp [h1])
theorem fn19 : ctx.fn 19 = some c19 := by kernel_rfl
theorem nothing_ct (hS : OldO S) : Ct (ctx.plus S) 19 [pO [] []] 1 fun r => r = .bool true := by
  refine ct_of (hS 19 (by decide)) fn19 ?_
  refine ⟨by omega, ?_⟩
  refine ⟨_, rfl, ?_⟩
  refine ⟨fun _ => ?_, fun h => absurd rfl h⟩
  refine ⟨_, rfl, ?_⟩
  refine ⟨fun _ => ?_, fun h => absurd rfl h⟩
  exact endq rfl rfl
end Go.PI
