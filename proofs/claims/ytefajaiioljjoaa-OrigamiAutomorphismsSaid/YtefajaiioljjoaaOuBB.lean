/- Own work of the verifier: OvD OgSq OgSr OgSo OgSp OyA OyB OyC OvE. -/
import Derived.Test.YtefajaiioljjoaaOuBA
import Derived.Test.YtefajaiioljjoaaOuAY
set_option linter.all false
set_option exponentiation.threshold 3000
set_option linter.deprecated false
/- THE QUOTIENT, of the program. -/
open Go.Proofs
namespace Go.PI
open IM
set_option maxRecDepth 10000
set_option maxHeartbeats 4000000
variable (S : FuncId → Option (List AV → Heap → Option (AV × Heap)))
def qtX (F : List Nat) (c f : Nat → Nat) (i : Nat) : List Nat := (F.take i).map fun x => c (f x)
theorem qtX_succ {F : List Nat} {c f : Nat → Nat} {i x : Nat} (h : F[i]? = some x) : qtX F c f (i + 1) = qtX F c f i ++ [c (f x)] := by
  unfold qtX
  rw [List.take_add_one, h, List.map_append]
  rfl
theorem qtX_len {F : List Nat} {c f : Nat → Nat} {i : Nat} (h : i ≤ F.length) : (qtX F c f i).length = i := by unfold qtX; rw [List.length_map, List.length_take]; omega
def Oqt : Opn := ⟨fun t => Nat.beq t 24, fun t => Nat.beq t 24 || Nat.beq t 22, false⟩
def cel (a b : Nat) : Nat → List PV
  | 0 => [pn 0, pn 0]
  | 1 => [pnn a, pn 0]
  | _ => [pnn a, pnn b]
structure QS (r u D : List Int) (σ : List StB) (vr vu : PV) (X Y : List Nat) : Prop where
  c0 : σ[0]? = some (.liv 24 [pIs r, pIs u])
  c1 : σ[1]? = some (.liv 24 [vr, vu])
  c3 : σ[3]? = some (.live 3 (D.map pn))
  gr : Gr pnn 3 vr σ X
  gu : Gr pnn 3 vu σ Y
  sep : ∀ q, blkOf vr = some q → blkOf vu ≠ some q
  out : ∀ q, q < 4 → blkOf vr ≠ some q ∧ blkOf vu ≠ some q
theorem QS.keep {r u D : List Int} {σ σ' : List StB} {vr vu : PV} {X Y : List Nat} (h : QS r u D σ vr vu X Y) (k : ∀ (i : Nat) (b : StB), σ[i]? = some b → σ'[i]? = some b) : QS r u D σ' vr vu X Y :=
  ⟨k _ _ h.c0, k _ _ h.c1, k _ _ h.c3, h.gr.keep fun i b _ hb => k i b hb, h.gu.keep fun i b _ hb => k i b hb, h.sep, h.out⟩
theorem QS.with {r u D : List Int} {σ σ2 : List StB} {vr vu vr2 vu2 : PV} {X Y X2 Y2 : List Nat} (h : QS r u D σ vr vu X Y) (hr : Gr pnn 3 vr2 σ2 X2) (hu : Gr pnn 3 vu2 σ2 Y2) (hs : ∀ q, blkOf vr2 = some q → blkOf vu2 ≠ some q) (hk : ∀ i bl, blkOf vr ≠ some i → blkOf vu ≠ some i → σ[i]? = some bl → σ2[i]? = some bl) (hn : ∀ i, i < σ.length → blkOf vr2 ≠ some i ∧ blkOf vu2 ≠ some i) :
    QS r u D (σ2.set 1 (.liv 24 [vr2, vu2])) vr2 vu2 X2 Y2 := by
  have l3 := (List.getElem?_eq_some_iff.1 h.c3).1
  have k0 := hk 0 _ (h.out 0 (by omega)).1 (h.out 0 (by omega)).2 h.c0
  have k1 := hk 1 _ (h.out 1 (by omega)).1 (h.out 1 (by omega)).2 h.c1
  have k3 := hk 3 _ (h.out 3 (by omega)).1 (h.out 3 (by omega)).2 h.c3
  refine ⟨by rw [List.getElem?_set_ne (by omega)]; exact k0, List.getElem?_set_self (List.getElem?_eq_some_iff.1 k1).1, by rw [List.getElem?_set_ne (by omega)]; exact k3, hr.keep fun q b hq hb => ?_, hu.keep fun q b hq hb => ?_, hs, fun q hq => hn q (by omega)⟩
  · rw [List.getElem?_set_ne (fun e => (hn 1 (by omega)).1 (by rw [e]; exact hq))]; exact hb
  · rw [List.getElem?_set_ne (fun e => (hn 1 (by omega)).2 (by rw [e]; exact hq))]; exact hb
theorem QS.set {r u D : List Int} {σ : List StB} {vr vu : PV} {X Y : List Nat} {L : Nat} {x : StB} (h : QS r u D σ vr vu X Y) (hL : 4 ≤ L) (h1 : blkOf vr ≠ some L) (h2 : blkOf vu ≠ some L) : QS r u D (σ.set L x) vr vu X Y :=
  ⟨by rw [List.getElem?_set_ne (by omega)]; exact h.c0, by rw [List.getElem?_set_ne (by omega)]; exact h.c1, by rw [List.getElem?_set_ne (by omega)]; exact h.c3, h.gr.keep fun q b hq hb => by
    rw [List.getElem?_set_ne (fun e => h1 (by rw [e]; exact hq))]; exact hb, h.gu.keep fun q b hq hb => by
    rw [List.getElem?_set_ne (fun e => h2 (by rw [e]; exact hq))]; exact hb, h.sep, h.out⟩
theorem fn84 : ctx.fn 84 = some c84 := by kernel_rfl
theorem quot_ct (hS : OldO S) {r u : List Int} {n : Nat} {f f' g g' : Nat → Nat} (ho : IsO r u n f f' g g') (hcn : Conn n f g) (hn20 : n ≤ 20) :
    Ct (ctx.plus S) 84 [pO r u] 80000 fun v => v = .tup [pO (NL (qtX (fsT n f g n) (cl n f g) f (fsT n f g n).length)) (NL (qtX (fsT n f g n) (cl n f g) g (fsT n f g n).length)), pIs (PL n (cl n f g))] := by
  have C : Ca n f f' g g' := ⟨ho.pr, ho.pu, ho.pos, hcn⟩
  have A := am_of C
  have hM0 := autos_ct S hS ho hcn hn20
  obtain ⟨M, hMe⟩ : ∃ M, mps n n f g f g n = M := ⟨_, rfl⟩
  rw [hMe] at A hM0
  clear hMe
  have hn := ho.le
  have h0 := ho.pos
  have hMl := A.len
  have hrl := ho.l1.1
  subst hrl
  refine ctO_of Oqt (hS 84 (by decide)) fn84 ?_
  refine ⟨by omega, by omega, ?_⟩
  refine ⟨by omega, partc rfl ⟨_, rfl, ?_⟩⟩
  refine ⟨_, load_liv rfl rfl rfl, ?_⟩
  refine cal2f (fz_ints1 rfl) fzI (repeatI_cf S hS (a := -1) (n := r.length) h0 hn20) (by omega) ?_
  rintro ty _ cp e cs ⟨rfl, rfl, rfl, rfl, rfl⟩
  refine ⟨_, load_liv rfl rfl rfl, ?_⟩
  refine callq rfl hM0 (by omega) ?_
  rintro _ rfl
  refine ⟨fun q st => ∃ (k b : Nat) (v : PV) (D : List Int) (σ : List StB) (T : List PV), st = ⟨T, σ, b⟩ ∧ Gt T 77 [(1, .optr 0 0), (2, .optr 1 0), (3, .own 3 0 r.length r.length 1), (4, v), (5, pM M), (22, pn r.length), (23, pn k)] ∧ q = r.length - k ∧ k ≤ r.length ∧ b ≤ 70100 + 5 * k ∧ Hid ((σ[0]? = some (.liv 24 [pIs r, pIs u]) ∧ σ[1]? = some (.liv 24 [.nils, .nils]) ∧ σ[3]? = some (.live 3 (D.map pn))) ∧ (∀ q, q < 4 → blkOf v ≠ some q) ∧ Gr pnn 3 v σ (fsT r.length f g k) ∧ CQu r.length f g M k D), ⟨_, ci ⟨0, _, .nils, _, _, _, rfl, ⟨rfl, rfl, rfl, rfl, rfl, rfl, rfl, rfl, trivial⟩, rfl, Nat.zero_le _, by omega, ⟨⟨rfl, rfl, rfl⟩, (fun q _ h => by cases h), .nil, CQu.start⟩⟩⟩, ?_⟩
  rintro _ st ⟨k, b, v, D, σ, T, rfl, hT, rfl, hk, hb, hh⟩
  obtain ⟨J, rfl⟩ := gt_open hT
  clear hT
  obtain ⟨⟨d0, d1, d3⟩, dv, d4, d5⟩ := hh.h
  clear hh
  have hfl := fsT_len (n := r.length) (f := f) (g := g) (m := k)
  refine ⟨fun hlt => ?_, fun hge => ?_⟩
  · have hkn : k < r.length := by omega
    obtain ⟨hlow, e, he⟩ := d5.low C hkn
    refine ⟨⟨by omega, by omega⟩, ?_⟩
    refine ⟨_, load_k rfl rfl (contOf_live d3) (at_map he) (by show 0 + _ * 1 = k; omega), ?_⟩
    refine ⟨fun hne => ?_, fun heq => ?_⟩
    · have hl : ¬ ls r.length f g k = k := fun h => hne (by have := hlow.2 h; rw [he] at this; exact Option.some.inj this)
      refine ⟨⟨by omega, by omega⟩, ?_⟩
      exact ⟨_, by omega, ci ⟨k + 1, _, v, D, σ, _, rfl, ⟨rfl, rfl, rfl, rfl, rfl, rfl, rfl, rfl, trivial⟩, rfl, by omega, by omega, ⟨⟨d0, d1, d3⟩, dv, by rw [fsT_no hl]; exact d4, d5.skip C hkn hl⟩⟩⟩
    · have hl : ls r.length f g k = k := hlow.1 (by rw [he, heq])
      refine ⟨fun q st => ∃ (j b' : Nat) (D : List Int) (σ : List StB) (T : List PV), st = ⟨T, σ, b'⟩ ∧ Gt T 77 [(1, .optr 0 0), (2, .optr 1 0), (3, .own 3 0 r.length r.length 1), (4, v), (5, pM M), (6, pn k), (22, pn r.length), (23, pn k), (31, pM M), (32, pn M.length), (33, pn j)] ∧ q = M.length - j ∧ j ≤ M.length ∧ b' ≤ b + 1 ∧ Hid ((σ[0]? = some (.liv 24 [pIs r, pIs u]) ∧ σ[1]? = some (.liv 24 [.nils, .nils]) ∧ σ[3]? = some (.live 3 (D.map pn))) ∧ Gr pnn 3 v σ (fsT r.length f g k) ∧ CJu r.length f g M k j D), ⟨_, ci ⟨0, _, D, σ, _, rfl, ⟨rfl, rfl, rfl, rfl, rfl, rfl, rfl, rfl, rfl, rfl, rfl, rfl, trivial⟩, rfl, Nat.zero_le _, by omega, ⟨⟨d0, d1, d3⟩, d4, d5.to⟩⟩⟩, ?_⟩
      clear d0 d1 d3 d4 d5 he hlow
      rintro _ st ⟨j, b', D, σ, T, rfl, hT, rfl, hj, hb', hh⟩
      obtain ⟨J, rfl⟩ := gt_open hT
      clear hT
      obtain ⟨⟨d0, d1, d3⟩, d4, d5⟩ := hh.h
      clear hh
      have hDl := d5.len
      have l3 := (List.getElem?_eq_some_iff.1 d3).1
      refine ⟨fun hlt2 => ?_, fun hge2 => ?_⟩
      · have hjM : j < M.length := by omega
        obtain ⟨l, hl2⟩ : ∃ l, M[j]? = some l := ⟨_, List.getElem?_eq_getElem hjM⟩
        obtain ⟨a, hA, rfl⟩ := A.at' j l hl2
        have han := hA.lt hkn
        have hN := d5.next C A hkn hl hl2 hA
        refine ⟨⟨⟨by omega, by omega⟩, len_map_le (by omega)⟩, ?_⟩
        refine ⟨_, ld (at_map hl2) (by show _ * 1 = j; omega), ?_⟩
        refine ⟨⟨⟨by omega, by rw [PL_len]; omega⟩, len_map_le (by rw [PL_len]; omega)⟩, ?_⟩
        refine ⟨_, ld (at_map (PL_get hkn)) (by show _ * 1 = k; omega), ?_⟩
        rcases id d4 with ⟨rfl, hnil⟩ | ⟨j4, ty4, rfl, h4⟩ | ⟨j4, rfl, h4⟩
        · have hN2 : CJu r.length f g M k (j + 1) (D.set (a k) 0) := by
            have := hN
            rw [hnil] at this
            exact this
          refine ⟨⟨by omega, by omega⟩, ?_⟩
          refine ⟨_, _, d3, ⟨rfl, by rw [List.length_map, hDl]; show 0 + a k * 1 + 1 ≤ _; omega, rfl⟩, _, int_put (j := a k) (by show 0 + a k * 1 = a k; omega) (by omega), _, rfl, ?_⟩
          refine ⟨⟨by omega, by omega⟩, ?_⟩
          refine ⟨_, by omega, ci ⟨j + 1, _, D.set (a k) 0, _, _, rfl, ⟨rfl, rfl, rfl, rfl, rfl, rfl, rfl, rfl, rfl, rfl, rfl, rfl, trivial⟩, rfl, by omega, by omega, ⟨⟨by rw [List.getElem?_set_ne (by omega)]; exact d0, by rw [List.getElem?_set_ne (by omega)]; exact d1, List.getElem?_set_self l3⟩, d4.keep fun i b hi hb => by
            rw [List.getElem?_set_ne (fun e => dv 3 (by omega) (by rw [e]; exact hi))]; exact hb, hN2⟩⟩⟩
        · skip
          refine ⟨⟨by omega, by omega⟩, ?_⟩
          refine ⟨_, _, d3, ⟨rfl, by rw [List.length_map, hDl]; show 0 + a k * 1 + 1 ≤ _; omega, rfl⟩, _, int_put (j := a k) (by show 0 + a k * 1 = a k; omega) (by omega), _, rfl, ?_⟩
          refine ⟨⟨by omega, by omega⟩, ?_⟩
          refine ⟨_, by omega, ci ⟨j + 1, _, D.set (a k) ((fsT r.length f g k).length : Int), _, _, rfl, ⟨rfl, rfl, rfl, rfl, rfl, rfl, rfl, rfl, rfl, rfl, rfl, rfl, trivial⟩, rfl, by omega, by omega, ⟨⟨by rw [List.getElem?_set_ne (by omega)]; exact d0, by rw [List.getElem?_set_ne (by omega)]; exact d1, List.getElem?_set_self l3⟩, d4.keep fun i b hi hb => by
            rw [List.getElem?_set_ne (fun e => dv 3 (by omega) (by rw [e]; exact hi))]; exact hb, hN⟩⟩⟩
        · skip
          refine ⟨⟨by omega, by omega⟩, ?_⟩
          refine ⟨_, _, d3, ⟨rfl, by rw [List.length_map, hDl]; show 0 + a k * 1 + 1 ≤ _; omega, rfl⟩, _, int_put (j := a k) (by show 0 + a k * 1 = a k; omega) (by omega), _, rfl, ?_⟩
          refine ⟨⟨by omega, by omega⟩, ?_⟩
          refine ⟨_, by omega, ci ⟨j + 1, _, D.set (a k) ((fsT r.length f g k).length : Int), _, _, rfl, ⟨rfl, rfl, rfl, rfl, rfl, rfl, rfl, rfl, rfl, rfl, rfl, rfl, trivial⟩, rfl, by omega, by omega, ⟨⟨by rw [List.getElem?_set_ne (by omega)]; exact d0, by rw [List.getElem?_set_ne (by omega)]; exact d1, List.getElem?_set_self l3⟩, d4.keep fun i b hi hb => by
            rw [List.getElem?_set_ne (fun e => dv 3 (by omega) (by rw [e]; exact hi))]; exact hb, hN⟩⟩⟩
      · have hjM : j = M.length := by omega
        subst hjM
        have d6 := d5.fin C A hkn hl
        refine ⟨by omega, part1 fzI ⟨[pnn k], rfl, ?_⟩⟩
        refine appG (f := pnn) (e := 3) (y := k) d4.push push_cont rfl rfl rfl rfl (by kernel_rfl) rfl rfl (by omega) (by omega) fun v' σ' hv' hkp hbv => ?_
        refine ⟨⟨by omega, by omega⟩, ?_⟩
        exact ⟨_, by omega, ci ⟨k + 1, _, v', D, σ', _, rfl, ⟨rfl, rfl, rfl, rfl, rfl, rfl, rfl, rfl, trivial⟩, rfl, by omega, by omega, ⟨⟨hkp 0 _ (dv 0 (by omega)) (push_old d0), hkp 1 _ (dv 1 (by omega)) (push_old d1), hkp 3 _ (dv 3 (by omega)) (push_old d3)⟩, fun q hq e => by rw [hbv] at e; have := Option.some.inj e; rw [List.length_append, List.length_singleton] at this; omega, by rw [fsT_yes hl]; exact hv', d6⟩⟩⟩
  · have hkn : k = r.length := by omega
    rw [hkn] at d4 d5
    obtain ⟨hD, -⟩ := d5.fin C
    obtain ⟨F, hF⟩ : ∃ F, fsT r.length f g r.length = F := ⟨_, rfl⟩
    have hFn : ∀ x ∈ F, x < r.length := fun x hx => by rw [← hF] at hx; exact (mem_fsT.1 hx).1
    have hFl : F.length ≤ r.length := by rw [← hF]; exact fsT_len
    have hF0 : F ≠ [] := fun e => by
      have := ls_mem C h0
      rw [hF, e] at this
      cases this
    rw [hF] at d4 ⊢
    have hcl : ∀ x, x < r.length → cl r.length f g x < r.length := fun x hx => by have := cl_lt C hx; rw [hF] at this; omega
    obtain ⟨c, hc⟩ : ∃ c, cl r.length f g = c := ⟨_, rfl⟩
    rw [hc] at hD hcl ⊢
    subst hD
    obtain ⟨σ5, f5, -, f6, f7⟩ := d4.cn.fz
    rw [pIs_NL] at f5
    have k0 := f7 0 _ (dv 0 (by omega)) d0
    have k1 := f7 1 _ (dv 1 (by omega)) d1
    have k3 := f7 3 _ (dv 3 (by omega)) d3
    have hnl : (NL F).length = F.length := NL_len
    obtain ⟨jv, ty, hcv, hv⟩ := d4.shape hF0
    clear d0 d1 d3 dv d5 d4 hcv
    rcases hv with rfl | rfl
    all_goals
      refine ⟨fun q st => ∃ (i b : Nat) (vr vu : PV) (σ : List StB) (T : List PV), st = ⟨T, σ, b⟩ ∧ Gt T 77 [(1, .optr 0 0), (2, .optr 1 0), (3, .own 3 0 r.length r.length 1), (51, pIs (NL F)), (52, pn F.length), (53, pn i)] ∧ q = F.length - i ∧ i ≤ F.length ∧ b ≤ 70200 + 30 * i ∧ Hid (QS r u (PL r.length c) σ vr vu (qtX F c f i) (qtX F c g i)), ⟨_, ⟨_, frzS_tmp (i := 51) rfl (f5 _ rfl), 0, _, .nils, .nils, σ5, _, rfl, ⟨rfl, rfl, rfl, rfl, rfl, rfl, rfl, trivial⟩, rfl, Nat.zero_le _, by omega, ⟨k0, k1, k3, .nil, .nil, (fun q h => by cases h), fun q _ => ⟨(fun h => by cases h), fun h => by cases h⟩⟩⟩⟩, ?_⟩
      clear k0 k1 k3 f7
      rintro _ st ⟨i, b2, vr, vu, τ, T, rfl, hT, rfl, hi, hb2, hh⟩
      obtain ⟨J, rfl⟩ := gt_open hT
      clear hT
      have hQ := hh.h
      clear hh
      refine ⟨fun hlt => ?_, fun hge => ?_⟩
      · have hil : i < F.length := by omega
        obtain ⟨x, hx⟩ : ∃ x, F[i]? = some x := ⟨_, List.getElem?_eq_getElem hil⟩
        have hxn := hFn x (List.mem_of_getElem? hx)
        refine ⟨⟨⟨by omega, by omega⟩, len_map_le (by omega)⟩, ?_⟩
        refine ⟨_, ld (at_map (NL_get hx)) (by show _ * 1 = i; omega), ?_⟩
        refine ⟨by omega, ?_⟩
        refine ⟨_, load_liv (push_old hQ.c0) rfl rfl, ?_⟩
        refine callq rfl (neighbours_ct S hS ho hxn) (by omega) ?_
        rintro _ rfl
        have hnr : blkOf vr ≠ some τ.length ∧ blkOf vu ≠ some τ.length := ⟨fun e => by have := hQ.gr.blk e; omega, fun e => by have := hQ.gu.blk e; omega⟩
        obtain ⟨L, hL⟩ : ∃ L, τ.length = L := ⟨_, rfl⟩
        have hp : (τ ++ [StB.live 107 (cel (c (f x)) (c (g x)) 0)])[L]? = some (.live 107 (cel (c (f x)) (c (g x)) 0)) := push_get' hL.symm
        have hL4 : 4 ≤ L := by have := (List.getElem?_eq_some_iff.1 hQ.c3).1; omega
        rw [hL] at hnr ⊢
        refine ⟨fun q st => ∃ (k b : Nat) (τ : List StB) (T : List PV), st = ⟨T, τ, b⟩ ∧ Gt T 77 [(1, .optr 0 0), (2, .optr 1 0), (3, .own 3 0 r.length r.length 1), (11, .optr L 0), (51, pIs (NL F)), (52, pn F.length), (53, pn i), (59, .agg [pn (f x), pn (g x)]), (60, pn k)] ∧ q = 2 - k ∧ k ≤ 2 ∧ b ≤ 70210 + 30 * i ∧ Hid (QS r u (PL r.length c) τ vr vu (qtX F c f i) (qtX F c g i) ∧ τ[L]? = some (.live 107 (cel (c (f x)) (c (g x)) k))), ⟨_, ci ⟨0, _, _, _, rfl, ⟨rfl, rfl, rfl, rfl, rfl, rfl, rfl, rfl, rfl, rfl, trivial⟩, rfl, Nat.zero_le _, by omega, ⟨hQ.keep fun i b hb => push_old hb, hp⟩⟩⟩, ?_⟩
        clear hp hL hQ hb2 τ
        rintro _ st ⟨k, b3, τ, T, rfl, hT, rfl, hk3, hb3, hh⟩
        obtain ⟨J, rfl⟩ := gt_open hT
        clear hT
        obtain ⟨hQ, hLk⟩ := hh.h
        clear hh
        have hLl := (List.getElem?_eq_some_iff.1 hLk).1
        refine ⟨fun hlt3 => ?_, fun hge3 => ?_⟩
        · rcases (show k = 0 ∨ k = 1 by omega) with rfl | rfl
          · have hz := C.pf.lt x hxn
            refine ⟨⟨by omega, by omega⟩, _, rfl, ?_⟩
            refine ⟨⟨by omega, by omega⟩, ?_⟩
            refine ⟨_, load_k rfl rfl (contOf_live hQ.c3) (at_map (PL_get hz)) (by show 0 + f x * 1 = f x; omega), ?_⟩
            refine ⟨⟨by omega, by omega⟩, ?_⟩
            refine ⟨_, _, hLk, ⟨rfl, Nat.le_of_ble_eq_true rfl, rfl⟩, _, rfl, _, rfl, ?_⟩
            refine ⟨⟨by omega, by omega⟩, ?_⟩
            exact ⟨_, by omega, ci ⟨1, _, _, _, rfl, ⟨rfl, rfl, rfl, rfl, rfl, rfl, rfl, rfl, rfl, rfl, trivial⟩, rfl, by omega, by omega, ⟨hQ.set hL4 hnr.1 hnr.2, List.getElem?_set_self hLl⟩⟩⟩
          · have hz := C.pg.lt x hxn
            refine ⟨⟨by omega, by omega⟩, _, rfl, ?_⟩
            refine ⟨⟨by omega, by omega⟩, ?_⟩
            refine ⟨_, load_k rfl rfl (contOf_live hQ.c3) (at_map (PL_get hz)) (by show 0 + g x * 1 = g x; omega), ?_⟩
            refine ⟨⟨by omega, by omega⟩, ?_⟩
            refine ⟨_, _, hLk, ⟨rfl, Nat.le_of_ble_eq_true rfl, rfl⟩, _, rfl, _, rfl, ?_⟩
            refine ⟨⟨by omega, by omega⟩, ?_⟩
            exact ⟨_, by omega, ci ⟨2, _, _, _, rfl, ⟨rfl, rfl, rfl, rfl, rfl, rfl, rfl, rfl, rfl, rfl, trivial⟩, rfl, by omega, by omega, ⟨hQ.set hL4 hnr.1 hnr.2, List.getElem?_set_self hLl⟩⟩⟩
        · have hk2 : k = 2 := by omega
          subst hk2
          refine ⟨_, load_liv hQ.c1 rfl rfl, ?_⟩
          refine ⟨_, load_c (contOf_live hLk) rfl rfl, ?_⟩
          refine callm (with_cm S hS hQ.gr hQ.gu hQ.sep (by rw [qtX_len (by omega)]; omega) (by rw [qtX_len (by omega)]; omega)) (by omega) ?_
          rintro _ σ3 ⟨vr3, vu3, rfl, g1, g2, g3, g4, g5, g6⟩
          rw [← qtX_succ hx] at g1 g2
          have hQ3 := hQ.with g1 g2 g3 g5 g6
          have k1 := g5 1 _ (hQ.out 1 (by omega)).1 (hQ.out 1 (by omega)).2 hQ.c1
          have one1 := g1.cell
          have one2 := g2.cell
          refine ⟨_, _, k1, ⟨rfl, Nat.le_of_ble_eq_true rfl, by show (vr3.one && (vu3.one && true)) = true; rw [one1.2, one2.2]; rfl⟩, _, rfl, _, rfl, ?_⟩
          refine ⟨⟨by omega, by omega⟩, ?_⟩
          exact ⟨_, by omega, ci ⟨i + 1, _, vr3, vu3, _, _, rfl, ⟨rfl, rfl, rfl, rfl, rfl, rfl, rfl, trivial⟩, rfl, by omega, by omega, ⟨hQ3⟩⟩⟩
      · have hin : i = F.length := by omega
        rw [hin] at hQ
        have g1 := hQ.gr.cell
        have g2 := hQ.gu.cell
        refine ⟨_, load_liv hQ.c1 rfl rfl, ?_⟩
        refine ⟨_, _, hQ.c1, ⟨rfl, Nat.le_of_ble_eq_true rfl, by show (vr.one && (vu.one && true)) = true; rw [g1.2, g2.2]; rfl⟩, _, rfl, _, rfl, ?_⟩
        have hQ3 : QS r u (PL r.length c) (τ.set 1 (.liv 24 [vr, vu])) vr vu (qtX F c f F.length) (qtX F c g F.length) := by rw [set_same hQ.c1]; exact hQ
        refine ⟨_, load_liv hQ3.c1 rfl rfl, ?_⟩
        obtain ⟨σ4, hf, k4⟩ := fz2 hQ3.gr.cn hQ3.gu.cn
        have h3 := k4 3 _ (hQ3.out 3 (by omega)).1 (hQ3.out 3 (by omega)).2 hQ3.c3
        refine ⟨⟨[], hf (fun p' σ' => frzAsK σ' [.own 3 0 r.length r.length 1] fun rs _ => PV.tup (p' :: rs) = .tup [pO (NL (qtX F c f F.length)) (NL (qtX F c g F.length)), pIs (PL r.length c)]) (fz_ints (xs := PL r.length c) (contOf_live h3) PL_len _ rfl)⟩⟩
end Go.PI
/- CYCLES of a list; a part, of the reference. -/
open Go.Proofs
namespace Go.PI
open IM
set_option maxRecDepth 10000
set_option maxHeartbeats 4000000
variable (S : FuncId → Option (List AV → Heap → Option (AV × Heap)))
end Go.PI
/- A PART, of the reference. -/
open Go.Proofs
namespace Go.PI
open IM
set_option maxRecDepth 10000
set_option maxHeartbeats 4000000
variable (S : FuncId → Option (List AV → Heap → Option (AV × Heap)))
end Go.PI
/- SORTING of few numbers in their place. -/
open Go.Proofs
namespace Go.PI
open IM
set_option maxRecDepth 10000
set_option maxHeartbeats 4000000
variable (S : FuncId → Option (List AV → Heap → Option (AV × Heap)))
structure Sw (σ σ' : List StB) (jv : Nat) (ty : TypeId) (ys zs : List Int) : Prop where
  at' : σ'[jv]? = some (.live ty (zs.map pn))
  len : σ'.length = σ.length
  keep : ∀ i, i ≠ jv → σ'[i]? = σ[i]?
  perm : zs.Perm ys
theorem Sw.step {σ σ' : List StB} {jv : Nat} {ty : TypeId} {ys zs ws : List Int} (h : Sw σ σ' jv ty ys zs) (hp : ws.Perm zs) : Sw σ (σ'.set jv (.live ty (ws.map pn))) jv ty ys ws :=
  ⟨List.getElem?_set_self (List.getElem?_eq_some_iff.1 h.at').1, by rw [List.length_set]; exact h.len, fun i hi => by rw [List.getElem?_set_ne (Ne.symm hi)]; exact h.keep i hi, hp.trans h.perm⟩
end Go.PI
/- SORTING of few numbers in their place: from the outside. -/
open Go.Proofs
namespace Go.PI
open IM
set_option maxRecDepth 10000
set_option maxHeartbeats 4000000
variable (S : FuncId → Option (List AV → Heap → Option (AV × Heap)))
end Go.PI
/- A COMPONENT in order: what the sorted squares are. -/
open Go.Proofs
namespace Go.PI
open IM
end Go.PI
/- THE COMPONENTS, of the program. -/
open Go.Proofs
namespace Go.PI
open IM
set_option maxRecDepth 10000
set_option maxHeartbeats 4000000
variable (S : FuncId → Option (List AV → Heap → Option (AV × Heap)))
end Go.PI
/- A PART, of the program. -/
open Go.Proofs
namespace Go.PI
open IM
set_option maxRecDepth 10000
set_option maxHeartbeats 4000000
variable (S : FuncId → Option (List AV → Heap → Option (AV × Heap)))
theorem take_add {C : List Nat} {i x : Nat} (hC : C.Nodup) (hx : C[i]? = some x) : addL (C.take (max 1 i)) x = C.take (max 1 (i + 1)) := by
  rw [show max 1 (i + 1) = i + 1 by omega]
  have hs : C.take (i + 1) = C.take i ++ [x] := by rw [List.take_add_one, hx]; rfl
  by_cases h0 : i = 0
  · subst h0
    rw [show max 1 0 = 0 + 1 by omega, hs]
    unfold addL
    rw [if_pos (by simp)]
  · rw [show max 1 i = i by omega, hs]
    refine addL_out fun hm => ?_
    have h2 : (C.take i ++ [x]).Nodup := by rw [← hs]; exact List.Sublist.nodup (List.take_sublist _ _) hC
    exact (List.nodup_append.1 h2).2.2 x hm x (List.mem_singleton.2 rfl) rfl
theorem NL_idx {x : Nat} : ∀ {l : List Nat}, (NL l).idxOf (x : Int) = l.idxOf x
  | [] => rfl
  | y :: l => by
    show ((y : Int) :: NL l).idxOf (x : Int) = (y :: l).idxOf x
    rw [List.idxOf_cons, List.idxOf_cons, NL_idx]
    by_cases e : y = x
    · subst e; simp
    · have h1 : ((y : Int) == (x : Int)) = false := by simp; omega
      have h2 : (y == x) = false := by simp [e]
      rw [h1, h2]
structure PT (r u : List Int) (σ : List StB) (j m L : Nat) (v vr vu : PV) (C X Y : List Nat) : Prop where
  c0 : σ[0]? = some (.liv 24 [pIs r, pIs u])
  c1 : σ[1]? = some (.liv 24 [.nils, .nils])
  cL : σ[L]? = some (.liv 24 [vr, vu])
  num : Num σ j m v C
  gr : Gr pnn 3 vr σ X
  gu : Gr pnn 3 vu σ Y
  sep : ∀ q, blkOf vr = some q → blkOf vu ≠ some q
  out : ∀ q, q = 0 ∨ q = 1 ∨ q = L → q ≠ j ∧ q ≠ m ∧ blkOf v ≠ some q ∧ blkOf vr ≠ some q ∧ blkOf vu ≠ some q
  nr : ∀ q, blkOf vr = some q ∨ blkOf vu = some q → q ≠ j ∧ q ≠ m ∧ blkOf v ≠ some q
  l1 : 1 < L
theorem PT.around {r u : List Int} {σ σ2 : List StB} {j m L : Nat} {v v2 vr vu : PV} {C X Y : List Nat} (h : PT r u σ j m L v vr vu C X Y) (e1 : Num σ2 j m v2 C) (e2 : NF σ σ2 j m v v2) : PT r u σ2 j m L v2 vr vu C X Y := by
  have kp : ∀ q b, q = 0 ∨ q = 1 ∨ q = L → σ[q]? = some b → σ2[q]? = some b := fun q b hq hb => e2.keep q b (h.out q hq).1 (h.out q hq).2.1 (h.out q hq).2.2.1 hb
  have lt : ∀ q, q = 0 ∨ q = 1 ∨ q = L → q < σ.length := fun q hq => by
    rcases hq with rfl | rfl | rfl
    · exact (List.getElem?_eq_some_iff.1 h.c0).1
    · exact (List.getElem?_eq_some_iff.1 h.c1).1
    · exact (List.getElem?_eq_some_iff.1 h.cL).1
  refine ⟨kp 0 _ (.inl rfl) h.c0, kp 1 _ (.inr (.inl rfl)) h.c1, kp L _ (.inr (.inr rfl)) h.cL, e1, h.gr.keep fun q b hq hb => ?_, h.gu.keep fun q b hq hb => ?_, h.sep, fun q hq => ?_, fun q hq => ?_, h.l1⟩
  · exact e2.keep q b (h.nr q (.inl hq)).1 (h.nr q (.inl hq)).2.1 (h.nr q (.inl hq)).2.2 hb
  · exact e2.keep q b (h.nr q (.inr hq)).1 (h.nr q (.inr hq)).2.1 (h.nr q (.inr hq)).2.2 hb
  · have := h.out q hq
    exact ⟨this.1, this.2.1, e2.blk q (lt q hq) this.2.2.1, this.2.2.2⟩
  · have := h.nr q hq
    exact ⟨this.1, this.2.1, e2.blk q (hq.elim h.gr.blk h.gu.blk) this.2.2⟩
theorem PT.with {r u : List Int} {σ σ2 : List StB} {j m L : Nat} {v vr vu vr2 vu2 : PV} {C X Y X2 Y2 : List Nat} (h : PT r u σ j m L v vr vu C X Y) (hr : Gr pnn 3 vr2 σ2 X2) (hu : Gr pnn 3 vu2 σ2 Y2) (hs : ∀ q, blkOf vr2 = some q → blkOf vu2 ≠ some q) (hk : ∀ i bl, blkOf vr ≠ some i → blkOf vu ≠ some i → σ[i]? = some bl → σ2[i]? = some bl) (hn : ∀ i, i < σ.length → blkOf vr2 ≠ some i ∧ blkOf vu2 ≠ some i) :
    PT r u (σ2.set L (.liv 24 [vr2, vu2])) j m L v vr2 vu2 C X2 Y2 := by
  have kp : ∀ q b, q = 0 ∨ q = 1 ∨ q = L → σ[q]? = some b → σ2[q]? = some b := fun q b hq hb => hk q b (h.out q hq).2.2.2.1 (h.out q hq).2.2.2.2 hb
  have lt : ∀ q, q = 0 ∨ q = 1 ∨ q = L → q < σ.length := fun q hq => by
    rcases hq with rfl | rfl | rfl
    · exact (List.getElem?_eq_some_iff.1 h.c0).1
    · exact (List.getElem?_eq_some_iff.1 h.c1).1
    · exact (List.getElem?_eq_some_iff.1 h.cL).1
  have l1 := h.l1
  have nL := h.out L (.inr (.inr rfl))
  have hL := (List.getElem?_eq_some_iff.1 (kp L _ (.inr (.inr rfl)) h.cL)).1
  have hlt := lt L (.inr (.inr rfl))
  have nv : ∀ i b, (i = j ∨ i = m ∨ blkOf v = some i) → σ[i]? = some b → (σ2.set L (.liv 24 [vr2, vu2]))[i]? = some b := fun i b hi hb => by
    have h1 : blkOf vr ≠ some i ∧ blkOf vu ≠ some i := ⟨fun e => by have := h.nr i (.inl e); rcases hi with hi | hi | hi; exact this.1 hi; exact this.2.1 hi; exact this.2.2 hi, fun e => by have := h.nr i (.inr e); rcases hi with hi | hi | hi; exact this.1 hi; exact this.2.1 hi; exact this.2.2 hi⟩
    rw [List.getElem?_set_ne (fun e => by subst e; rcases hi with hi | hi | hi; exact nL.1 hi; exact nL.2.1 hi; exact nL.2.2.1 hi)]
    exact hk i b h1.1 h1.2 hb
  refine ⟨?_, ?_, List.getElem?_set_self hL, h.num.keep nv, hr.keep fun q b hq hb => ?_, hu.keep fun q b hq hb => ?_, hs, fun q hq => ?_, fun q hq => ?_, l1⟩
  · rw [List.getElem?_set_ne (by omega)]; exact kp 0 _ (.inl rfl) h.c0
  · rw [List.getElem?_set_ne (by omega)]; exact kp 1 _ (.inr (.inl rfl)) h.c1
  · rw [List.getElem?_set_ne (fun e => (hn L hlt).1 (by rw [e]; exact hq))]; exact hb
  · rw [List.getElem?_set_ne (fun e => (hn L hlt).2 (by rw [e]; exact hq))]; exact hb
  · have := h.out q hq
    exact ⟨this.1, this.2.1, this.2.2.1, hn q (lt q hq)⟩
  · have big : ¬ q < σ.length := fun hl => by
      rcases hq with hq | hq
      · exact (hn q hl).1 hq
      · exact (hn q hl).2 hq
    refine ⟨fun e => big (by rw [e]; exact h.num.jl), fun e => big (by rw [e]; exact h.num.ml), fun e => big ?_⟩
    exact h.num.gr.blk e
end Go.PI
/- THE QUOTIENT, of the reference. -/
open Go.Proofs
namespace Go.PI
open IM
set_option maxRecDepth 10000
set_option maxHeartbeats 4000000
variable (S : FuncId → Option (List AV → Heap → Option (AV × Heap)))
structure QR (r u : List Int) (σ : List StB) (L : Nat) (vr vu : PV) (X Y : List Nat) : Prop where
  c0 : σ[0]? = some (.liv 24 [pIs r, pIs u])
  c1 : σ[1]? = some (.liv 24 [.nils, .nils])
  cL : σ[L]? = some (.liv 24 [vr, vu])
  gr : Gr pnn 3 vr σ X
  gu : Gr pnn 3 vu σ Y
  sep : ∀ q, blkOf vr = some q → blkOf vu ≠ some q
  out : ∀ q, q = 0 ∨ q = 1 ∨ q = L → blkOf vr ≠ some q ∧ blkOf vu ≠ some q
  l1 : 1 < L
section
variable {r u : List Int} {σ σ2 : List StB} {L : Nat} {vr vu v2 : PV} {X Y Z : List Nat}
theorem QR.lt (h : QR r u σ L vr vu X Y) {q : Nat} (hq : q = 0 ∨ q = 1 ∨ q = L) : q < σ.length := by
  rcases hq with rfl | rfl | rfl
  · exact (List.getElem?_eq_some_iff.1 h.c0).1
  · exact (List.getElem?_eq_some_iff.1 h.c1).1
  · exact (List.getElem?_eq_some_iff.1 h.cL).1
theorem QR.setr (h : QR r u σ L vr vu X Y) (hv : Gr pnn 3 v2 σ2 Z) (hk : ∀ (j : Nat) (b : StB), blkOf vr ≠ some j → σ[j]? = some b → σ2[j]? = some b) {m : Nat} (hb : blkOf v2 = some m) (hm : σ.length ≤ m) : QR r u (σ2.set L (.liv 24 [v2, vu])) L v2 vu Z Y := by
  have l1 := h.l1
  have k := fun q (b : StB) (hq : q = 0 ∨ q = 1 ∨ q = L) (hb : σ[q]? = some b) => hk q b (h.out q hq).1 hb
  have lL := h.lt (.inr (.inr rfl))
  have n2 : ∀ q, q < σ.length → blkOf v2 ≠ some q := fun q hq e => by rw [hb] at e; have := Option.some.inj e; omega
  refine ⟨by rw [List.getElem?_set_ne (by omega)]; exact k 0 _ (.inl rfl) h.c0, by rw [List.getElem?_set_ne (by omega)]; exact k 1 _ (.inr (.inl rfl)) h.c1, List.getElem?_set_self (List.getElem?_eq_some_iff.1 (k L _ (.inr (.inr rfl)) h.cL)).1, hv.keep fun q b hq hb => ?_, h.gu.keep fun q b hq hb => ?_, fun q h1 h2 => n2 q (h.gu.blk h2) h1, fun q hq => ⟨n2 q (h.lt hq), (h.out q hq).2⟩, l1⟩
  · rw [List.getElem?_set_ne (fun e => n2 L lL (by rw [e]; exact hq))]; exact hb
  · rw [List.getElem?_set_ne (fun e => (h.out L (.inr (.inr rfl))).2 (by rw [e]; exact hq))]
    exact hk q b (fun e => h.sep q e hq) hb
theorem QR.setu (h : QR r u σ L vr vu X Y) (hv : Gr pnn 3 v2 σ2 Z) (hk : ∀ (j : Nat) (b : StB), blkOf vu ≠ some j → σ[j]? = some b → σ2[j]? = some b) {m : Nat} (hb : blkOf v2 = some m) (hm : σ.length ≤ m) : QR r u (σ2.set L (.liv 24 [vr, v2])) L vr v2 X Z := by
  have l1 := h.l1
  have k := fun q (b : StB) (hq : q = 0 ∨ q = 1 ∨ q = L) (hb : σ[q]? = some b) => hk q b (h.out q hq).2 hb
  have lL := h.lt (.inr (.inr rfl))
  have n2 : ∀ q, q < σ.length → blkOf v2 ≠ some q := fun q hq e => by rw [hb] at e; have := Option.some.inj e; omega
  refine ⟨by rw [List.getElem?_set_ne (by omega)]; exact k 0 _ (.inl rfl) h.c0, by rw [List.getElem?_set_ne (by omega)]; exact k 1 _ (.inr (.inl rfl)) h.c1, List.getElem?_set_self (List.getElem?_eq_some_iff.1 (k L _ (.inr (.inr rfl)) h.cL)).1, h.gr.keep fun q b hq hb => ?_, hv.keep fun q b hq hb => ?_, fun q h1 h2 => n2 q (h.gr.blk h1) h2, fun q hq => ⟨(h.out q hq).1, n2 q (h.lt hq)⟩, l1⟩
  · rw [List.getElem?_set_ne (fun e => (h.out L (.inr (.inr rfl))).1 (by rw [e]; exact hq))]
    exact hk q b (fun e => h.sep q hq e) hb
  · rw [List.getElem?_set_ne (fun e => n2 L lL (by rw [e]; exact hq))]; exact hb
end
structure LTo (n : Nat) (f g : Nat → Nat) (M : List (List Int)) (k j w : Nat) : Prop where
  eo : Eo n f g k w
  le : ∀ i h, i < j → M[i]? = some (PL n h) → Au n f g h → w ≤ h k
section
variable {n k j w : Nat} {f f' g g' : Nat → Nat} {M : List (List Int)}
theorem LTo.start (h0 : 0 < n) : LTo n f g M k 0 k := ⟨Eo.refl h0, fun i h hi => by omega⟩
theorem LTo.next (h : LTo n f g M k j w) {a : Nat → Nat} (ha : M[j]? = some (PL n a)) (hA : Au n f g a) (hk : k < n) : LTo n f g M k (j + 1) (min w (a k)) := by
  refine ⟨?_, fun i b hi hb hB => ?_⟩
  · rcases Nat.le_total w (a k) with e | e
    · rw [Nat.min_eq_left e]; exact h.eo
    · rw [Nat.min_eq_right e]; exact ⟨a, hA, rfl⟩
  · by_cases e : i = j
    · subst e
      have e4 : PL n a = PL n b := Option.some.inj (ha.symm.trans hb)
      have h1 := PL_get (f := a) hk
      rw [e4, PL_get hk] at h1
      have := Option.some.inj h1
      omega
    · have := h.le i b (by omega) hb hB
      omega
theorem LTo.fin (C : Ca n f f' g g') (A : AM n f g M) (hk : k < n) (h : LTo n f g M k M.length w) : w = ls n f g k := by
  obtain ⟨⟨a, hA, e⟩, h2⟩ := ls_spec C hk
  obtain ⟨i, hi⟩ := A.all a hA
  have h3 := h.le i a (List.getElem?_eq_some_iff.1 hi).1 hi hA
  have h4 := h2 w h.eo
  omega
end
theorem fn41 : ctx.fn 41 = some c41 := by kernel_rfl
theorem rquot_ct (hS : OldO S) {r u : List Int} {n : Nat} {f f' g g' : Nat → Nat} (ho : IsO r u n f f' g g') (hcn : Conn n f g) :
    Ct (ctx.plus S) 41 [pO r u] 800000 fun v => v = .tup [pO (NL (qtX (fsT n f g n) (cl n f g) f (fsT n f g n).length)) (NL (qtX (fsT n f g n) (cl n f g) g (fsT n f g n).length)), pIs (PL n (cl n f g))] := by
  have C : Ca n f f' g g' := ⟨ho.pr, ho.pu, ho.pos, hcn⟩
  have A := am_of C
  have hM0 := rmaps_ct S hS ho ho hcn
  obtain ⟨M, hMe⟩ : ∃ M, mps n n f g f g n = M := ⟨_, rfl⟩
  rw [hMe] at A hM0
  clear hMe
  have hn := ho.le
  have h0 := ho.pos
  have hMl := A.len
  have hrl := ho.l1.1
  subst hrl
  refine ctO_of Oqt (hS 41 (by decide)) fn41 ?_
  refine ⟨by omega, by omega, ?_⟩
  refine ⟨_, load_liv rfl rfl rfl, ?_⟩
  refine ⟨_, load_liv rfl rfl rfl, ?_⟩
  refine callq rfl hM0 (by omega) ?_
  rintro _ rfl
  refine ⟨_, load_liv rfl rfl rfl, ?_⟩
  refine callq rfl (size_ct S hS (r := r) (u := u)) (by omega) ?_
  rintro _ rfl
  refine ⟨by omega, ⟨by omega, by omega, by omega⟩, _, int_zero, ?_⟩
  refine ⟨fun q st => ∃ (k b : Nat) (v : PV) (D : List Int) (σ : List StB) (T : List PV), st = ⟨T, σ, b⟩ ∧ Gt T 115 [(1, .optr 0 0), (2, .optr 1 0), (4, pM M), (5, .own 2 0 r.length r.length 1), (6, v), (7, pn k)] ∧ q = r.length - k ∧ k ≤ r.length ∧ b ≤ 700010 + 5 * k ∧ Hid ((σ[0]? = some (.liv 24 [pIs r, pIs u]) ∧ σ[1]? = some (.liv 24 [.nils, .nils]) ∧ σ[2]? = some (.live 3 (D.map pn))) ∧ (∀ q, q < 3 → blkOf v ≠ some q) ∧ Gr pnn 3 v σ (fsT r.length f g k) ∧ D.length = r.length ∧ ∀ y, y < k → D[y]? = some (ls r.length f g y : Int)), ⟨_, ci ⟨0, _, .nils, _, _, _, rfl, ⟨rfl, rfl, rfl, rfl, rfl, rfl, rfl, trivial⟩, rfl, Nat.zero_le _, by omega, ⟨⟨rfl, rfl, rfl⟩, (fun q _ h => by cases h), .nil, by simp, fun y hy => by omega⟩⟩⟩, ?_⟩
  rintro _ st ⟨k, b, v, D, σ, T, rfl, hT, rfl, hk, hb, hh⟩
  obtain ⟨J, rfl⟩ := gt_open hT
  clear hT
  obtain ⟨⟨d0, d1, d2⟩, dv, d4, hDl, d5⟩ := hh.h
  clear hh
  have hfl := fsT_len (n := r.length) (f := f) (g := g) (m := k)
  have l2 := (List.getElem?_eq_some_iff.1 d2).1
  refine ⟨_, load_liv d0 rfl rfl, ?_⟩
  refine callq rfl (size_ct S hS (r := r) (u := u)) (by omega) ?_
  rintro _ rfl
  refine ⟨fun hlt => ?_, fun hge => ?_⟩
  · have hkn : k < r.length := by omega
    refine ⟨⟨by omega, by omega⟩, ?_⟩
    refine ⟨_, _, d2, ⟨rfl, by rw [List.length_map, hDl]; show 0 + k * 1 + 1 ≤ _; omega, rfl⟩, _, int_put (j := k) (by show 0 + k * 1 = k; omega) (by omega), _, rfl, ?_⟩
    refine ⟨fun q st => ∃ (j b' w : Nat) (D : List Int) (σ : List StB) (T : List PV), st = ⟨T, σ, b'⟩ ∧ Gt T 115 [(1, .optr 0 0), (2, .optr 1 0), (4, pM M), (5, .own 2 0 r.length r.length 1), (6, v), (7, pn k), (8, pn j)] ∧ q = M.length - j ∧ j ≤ M.length ∧ b' ≤ b + 2 ∧ Hid ((σ[0]? = some (.liv 24 [pIs r, pIs u]) ∧ σ[1]? = some (.liv 24 [.nils, .nils]) ∧ σ[2]? = some (.live 3 (D.map pn))) ∧ Gr pnn 3 v σ (fsT r.length f g k) ∧ (D.length = r.length ∧ ∀ y, y < k → D[y]? = some (ls r.length f g y : Int)) ∧ D[k]? = some (w : Int) ∧ LTo r.length f g M k j w), ⟨_, ci ⟨0, _, k, _, _, _, rfl, ⟨rfl, rfl, rfl, rfl, rfl, rfl, rfl, rfl, trivial⟩, rfl, Nat.zero_le _, by omega, ⟨⟨by rw [List.getElem?_set_ne (by omega)]; exact d0, by rw [List.getElem?_set_ne (by omega)]; exact d1, List.getElem?_set_self l2⟩, d4.keep fun i b hi hb => by
      rw [List.getElem?_set_ne (fun e => dv 2 (by omega) (by rw [e]; exact hi))]; exact hb, ⟨by rw [List.length_set]; exact hDl, fun y hy => by rw [List.getElem?_set_ne (by omega)]; exact d5 y hy⟩, List.getElem?_set_self (by omega), LTo.start h0⟩⟩⟩, ?_⟩
    clear d0 d1 d2 d4 d5 hDl l2 D
    rintro _ st ⟨j, b', w, D, σ, T, rfl, hT, rfl, hj, hb', hh⟩
    obtain ⟨J, rfl⟩ := gt_open hT
    clear hT
    obtain ⟨⟨d0, d1, d2⟩, d4, ⟨hDl, d5⟩, hw, hLT⟩ := hh.h
    clear hh
    have l2 := (List.getElem?_eq_some_iff.1 d2).1
    refine ⟨fun hlt2 => ?_, fun hge2 => ?_⟩
    · have hjM : j < M.length := by omega
      obtain ⟨l, hl2⟩ : ∃ l, M[j]? = some l := ⟨_, List.getElem?_eq_getElem hjM⟩
      obtain ⟨a, hA, rfl⟩ := A.at' j l hl2
      refine ⟨by kernel_rfl, ?_⟩
      refine ⟨⟨by omega, by omega⟩, ?_⟩
      refine ⟨_, load_k rfl rfl (contOf_live d2) (at_map hw) (by show 0 + _ * 1 = k; omega), rfl, ?_⟩
      refine ⟨⟨⟨by omega, by omega⟩, len_map_le (by omega)⟩, ?_⟩
      refine ⟨_, ld (at_map hl2) (by show _ * 1 = j; omega), rfl, ?_⟩
      refine ⟨⟨⟨by omega, by rw [PL_len]; omega⟩, len_map_le (by rw [PL_len]; omega)⟩, ?_⟩
      refine ⟨_, ld (at_map (PL_get hkn)) (by show _ * 1 = k; omega), rfl, ?_⟩
      refine ⟨⟨by omega, by omega⟩, ?_⟩
      refine ⟨_, _, d2, ⟨rfl, by rw [List.length_map, hDl]; show 0 + k * 1 + 1 ≤ _; omega, rfl⟩, _, int_put (j := k) (y := min (w : Int) (a k : Int)) (by show 0 + k * 1 = k; omega) (by omega), _, rfl, ?_⟩
      refine ⟨⟨by omega, by omega⟩, ?_⟩
      refine ⟨_, by omega, ci ⟨j + 1, _, min w (a k), _, _, _, rfl, ⟨rfl, rfl, rfl, rfl, rfl, rfl, rfl, rfl, trivial⟩, rfl, by omega, by omega, ⟨⟨by rw [List.getElem?_set_ne (by omega)]; exact d0, by rw [List.getElem?_set_ne (by omega)]; exact d1, List.getElem?_set_self l2⟩, d4.keep fun i b hi hb => by
        rw [List.getElem?_set_ne (fun e => dv 2 (by omega) (by rw [e]; exact hi))]; exact hb, ⟨by rw [List.length_set]; exact hDl, fun y hy => by rw [List.getElem?_set_ne (by omega)]; exact d5 y hy⟩, by rw [List.getElem?_set_self (by omega)]; congr 1; omega, hLT.next hl2 hA hkn⟩⟩⟩
    · have hjM : j = M.length := by omega
      subst hjM
      have hwl := hLT.fin C A hkn
      subst hwl
      have d6 : ∀ y, y < k + 1 → D[y]? = some (ls r.length f g y : Int) := fun y hy => by
        by_cases e : y = k
        · rw [e]; exact hw
        · exact d5 y (by omega)
      refine ⟨⟨by omega, by omega⟩, ?_⟩
      refine ⟨_, load_k rfl rfl (contOf_live d2) (at_map hw) (by show 0 + _ * 1 = k; omega), ?_⟩
      refine ⟨fun heq => ?_, fun hne => ?_⟩
      · refine ⟨by omega, part1 fzI ⟨[pnn k], rfl, ?_⟩⟩
        refine appG (f := pnn) (e := 3) (y := k) d4.push push_cont rfl rfl rfl rfl (by kernel_rfl) rfl rfl (by omega) (by omega) fun v' σ' hv' hkp hbv => ?_
        refine ⟨⟨by omega, by omega⟩, ?_⟩
        exact ⟨_, by omega, ci ⟨k + 1, _, v', D, σ', _, rfl, ⟨rfl, rfl, rfl, rfl, rfl, rfl, rfl, trivial⟩, rfl, by omega, by omega, ⟨⟨hkp 0 _ (dv 0 (by omega)) (push_old d0), hkp 1 _ (dv 1 (by omega)) (push_old d1), hkp 2 _ (dv 2 (by omega)) (push_old d2)⟩, fun q hq e => by rw [hbv] at e; have := Option.some.inj e; rw [List.length_append, List.length_singleton] at this; omega, by rw [fsT_yes (by omega)]; exact hv', hDl, d6⟩⟩⟩
      · refine ⟨⟨by omega, by omega⟩, ?_⟩
        exact ⟨_, by omega, ci ⟨k + 1, _, v, D, σ, _, rfl, ⟨rfl, rfl, rfl, rfl, rfl, rfl, rfl, trivial⟩, rfl, by omega, by omega, ⟨⟨d0, d1, d2⟩, dv, by rw [fsT_no (by omega)]; exact d4, hDl, d6⟩⟩⟩
  have hkn : k = r.length := by omega
  rw [hkn] at d4 d5
  have hLs : ∀ y, y < r.length → ls r.length f g y ∈ fsT r.length f g r.length := fun y hy => ls_mem C hy
  have hcd : ∀ y, cl r.length f g y = (fsT r.length f g r.length).idxOf (ls r.length f g y) := fun y => rfl
  obtain ⟨F, hF⟩ : ∃ F, fsT r.length f g r.length = F := ⟨_, rfl⟩
  have hFn : ∀ x ∈ F, x < r.length := fun x hx => by rw [← hF] at hx; exact (mem_fsT.1 hx).1
  have hFl : F.length ≤ r.length := by rw [← hF]; exact fsT_len
  obtain ⟨c, hc⟩ : ∃ c, cl r.length f g = c := ⟨_, rfl⟩
  rw [hF] at d4 hLs hcd ⊢
  rw [hc] at hcd ⊢
  have hidx : ∀ y, y < r.length → idx (NL F) (ls r.length f g y : Int) = (c y : Int) := fun y hy => by
    have hm : (ls r.length f g y : Int) ∈ NL F := List.mem_map.2 ⟨_, hLs y hy, rfl⟩
    unfold idx
    rw [if_pos hm, NL_idx, hcd]
  obtain ⟨σ5, f5, -, f6, f7⟩ := d4.cn.fz
  rw [pIs_NL] at f5
  have k0 := f7 0 _ (dv 0 (by omega)) d0
  have k1 := f7 1 _ (dv 1 (by omega)) d1
  have k2 := f7 2 _ (dv 2 (by omega)) d2
  have hnl : (NL F).length = F.length := NL_len
  refine ⟨fun q st => ∃ (i b : Nat) (v : PV) (σ : List StB) (T : List PV), st = ⟨T, σ, b⟩ ∧ Gt T 115 [(1, .optr 0 0), (2, .optr 1 0), (5, .own 2 0 r.length r.length 1), (6, pIs (NL F)), (9, v), (10, pn i)] ∧ q = r.length - i ∧ i ≤ r.length ∧ b ≤ 700400 + 5 * i ∧ Hid ((σ[0]? = some (.liv 24 [pIs r, pIs u]) ∧ σ[1]? = some (.liv 24 [.nils, .nils]) ∧ σ[2]? = some (.live 3 (D.map pn))) ∧ (∀ q, q < 3 → blkOf v ≠ some q) ∧ Gr pnn 3 v σ ((List.range i).map c)), ⟨_, ⟨_, frzS_tmp (i := 6) rfl (f5 _ rfl), 0, _, .nils, σ5, _, rfl, ⟨rfl, rfl, rfl, rfl, rfl, rfl, rfl, trivial⟩, rfl, Nat.zero_le _, by omega, ⟨⟨k0, k1, k2⟩, (fun q _ h => by cases h), .nil⟩⟩⟩, ?_⟩
  clear k0 k1 k2 f7 f6 f5 d0 d1 d2 d4 dv hge hb hk hkn v σ σ5 l2
  rintro _ st ⟨i, b, v, σ, T, rfl, hT, rfl, hi, hb, hh⟩
  obtain ⟨J, rfl⟩ := gt_open hT
  clear hT
  obtain ⟨⟨d0, d1, d2⟩, dv, d4⟩ := hh.h
  clear hh
  refine ⟨_, load_liv d0 rfl rfl, ?_⟩
  refine callq rfl (size_ct S hS (r := r) (u := u)) (by omega) ?_
  rintro _ rfl
  refine ⟨fun hlt => ?_, fun hge => ?_⟩
  · have hin : i < r.length := by omega
    refine ⟨⟨by omega, by omega⟩, ?_⟩
    refine ⟨_, load_k rfl rfl (contOf_live d2) (at_map (d5 i hin)) (by show 0 + _ * 1 = i; omega), ?_⟩
    refine callq rfl (at_ct S hS (by omega)) (by omega) ?_
    rintro _ rfl
    rw [hidx i hin]
    refine ⟨by omega, part1 fzI ⟨[pnn (c i)], rfl, ?_⟩⟩
    refine appG (f := pnn) (e := 3) (y := c i) d4.push push_cont rfl rfl rfl rfl (by kernel_rfl) rfl rfl (by simp; omega) (by omega) fun v' σ' hv' hkp hbv => ?_
    refine ⟨⟨by omega, by omega⟩, ?_⟩
    exact ⟨_, by omega, ci ⟨i + 1, _, v', σ', _, rfl, ⟨rfl, rfl, rfl, rfl, rfl, rfl, rfl, trivial⟩, rfl, by omega, by omega, ⟨⟨hkp 0 _ (dv 0 (by omega)) (push_old d0), hkp 1 _ (dv 1 (by omega)) (push_old d1), hkp 2 _ (dv 2 (by omega)) (push_old d2)⟩, fun q hq e => by
      have l2 := (List.getElem?_eq_some_iff.1 d2).1
      rw [hbv] at e; have := Option.some.inj e; rw [List.length_append, List.length_singleton] at this; omega, by rw [List.range_succ, List.map_append]; exact hv'⟩⟩⟩
  have hin : i = r.length := by omega
  rw [hin] at d4
  have l2 := (List.getElem?_eq_some_iff.1 d2).1
  refine ⟨by omega, ?_⟩
  obtain ⟨σ5, f5, -, f6, f7⟩ := (d4.push (b := StB.liv 24 [.nils, .nils])).cn.fz
  have hPL : NL ((List.range r.length).map c) = PL r.length c := by unfold NL PL; rw [List.map_map]; rfl
  rw [pIs_NL, hPL] at f5
  have k0 := f7 0 _ (dv 0 (by omega)) (push_old d0)
  have k1 := f7 1 _ (dv 1 (by omega)) (push_old d1)
  have kL := f7 σ.length _ (fun e => by have := d4.blk e; omega) push_get
  have hcl : ∀ x, x < r.length → c x < r.length := fun x hx => by have := cl_lt C hx; rw [hF, hc] at this; omega
  obtain ⟨L, hL⟩ : ∃ L, σ.length = L := ⟨_, rfl⟩
  rw [hL] at kL l2
  have hQ0 : QR r u σ5 L .nils .nils (qtX F c f 0) (qtX F c g 0) := ⟨k0, k1, kL, .nil, .nil, (fun q h => by cases h), fun q _ => ⟨(fun h => by cases h), fun h => by cases h⟩, by omega⟩
  refine ⟨fun q st => ∃ (i b : Nat) (vr vu : PV) (σ : List StB) (T : List PV), st = ⟨T, σ, b⟩ ∧ Gt T 115 [(1, .optr 0 0), (2, .optr 1 0), (6, pIs (NL F)), (9, pIs (PL r.length c)), (11, .optr L 0), (12, pn i)] ∧ q = F.length - i ∧ i ≤ F.length ∧ b ≤ 700800 + 10 * i ∧ Hid (QR r u σ L vr vu (qtX F c f i) (qtX F c g i)), ⟨_, ⟨_, frzS_tmp (i := 9) rfl (f5 _ rfl), 0, _, .nils, .nils, σ5, _, rfl, ⟨rfl, rfl, rfl, rfl, rfl, by rw [← hL]; rfl, rfl, trivial⟩, rfl, Nat.zero_le _, by omega, ⟨hQ0⟩⟩⟩, ?_⟩
  clear hQ0 k0 k1 kL f7 f6 f5 d0 d1 d2 d4 dv hge hb hi hin v hL l2 σ5 σ
  rintro _ st ⟨i, b, vr, vu, σ, T, rfl, hT, rfl, hi, hb, hh⟩
  obtain ⟨J, rfl⟩ := gt_open hT
  clear hT
  have hQ := hh.h
  clear hh
  refine ⟨fun hlt => ?_, fun hge => ?_⟩
  · have hil : i < F.length := by omega
    obtain ⟨x, hx⟩ : ∃ x, F[i]? = some x := ⟨_, List.getElem?_eq_getElem hil⟩
    have hxn := hFn x (List.mem_of_getElem? hx)
    have gr : r[x]? = some (f x : Int) := by rw [ho.hr, PL_get hxn]
    have gu : u[x]? = some (g x : Int) := by rw [ho.hu, PL_get hxn]
    have hul := ho.l1.2
    have hf := C.pf.lt x hxn
    have hg := C.pg.lt x hxn
    refine ⟨by kernel_rfl, ?_⟩
    refine ⟨_, load_liv hQ.cL rfl rfl, hQ.gr.smP, ?_⟩
    refine ⟨_, load_liv hQ.c0 rfl rfl, rfl, ?_⟩
    refine ⟨⟨⟨by omega, by omega⟩, len_map_le (by omega)⟩, ?_⟩
    refine ⟨_, ld (at_map (NL_get hx)) (by show _ * 1 = i; omega), rfl, ?_⟩
    refine ⟨⟨⟨by omega, by omega⟩, len_map_le (by omega)⟩, ?_⟩
    refine ⟨_, ld (at_map gr) (by show _ * 1 = x; omega), rfl, ?_⟩
    refine ⟨⟨⟨by omega, by rw [PL_len]; omega⟩, len_map_le (by rw [PL_len]; omega)⟩, ?_⟩
    refine ⟨_, ld (at_map (PL_get hf)) (by show _ * 1 = f x; omega), rfl, ?_⟩
    refine ⟨by omega, part1 fzI ⟨[pnn (c (f x))], rfl, ?_⟩⟩
    refine appG (f := pnn) (e := 3) (y := c (f x)) hQ.gr.push push_cont rfl rfl rfl rfl (by kernel_rfl) rfl rfl (by rw [qtX_len (by omega)]; omega) (by omega) fun vr' σ1 hv1 hk1 hb1 => ?_
    rw [← qtX_succ hx] at hv1
    have one1 := hv1.cell
    have zL := hk1 L _ (hQ.out L (.inr (.inr rfl))).1 (push_old hQ.cL)
    have hQ1 := hQ.setr hv1 (fun j b h1 h2 => hk1 j b h1 (push_old h2)) hb1 (by simp)
    refine ⟨_, _, zL, ⟨by rw [one1.1]; rfl, Nat.le_of_ble_eq_true rfl, by rw [one1.1]; show (vr'.one && true) = true; rw [one1.2]; rfl⟩, [vr', vu], by rw [one1.1]; rfl, _, rfl, ?_⟩
    obtain ⟨τ, hτ⟩ : ∃ τ, σ1.set L (.liv 24 [vr', vu]) = τ := ⟨_, rfl⟩
    rw [hτ] at hQ1 ⊢
    refine ⟨by kernel_rfl, ?_⟩
    refine ⟨_, load_liv hQ1.cL rfl rfl, hQ1.gu.smP, ?_⟩
    refine ⟨_, load_liv hQ1.c0 rfl rfl, rfl, ?_⟩
    refine ⟨⟨⟨by omega, by omega⟩, len_map_le (by omega)⟩, ?_⟩
    refine ⟨_, ld (at_map (NL_get hx)) (by show _ * 1 = i; omega), rfl, ?_⟩
    refine ⟨⟨⟨by omega, by omega⟩, len_map_le (by omega)⟩, ?_⟩
    refine ⟨_, ld (at_map gu) (by show _ * 1 = x; omega), rfl, ?_⟩
    refine ⟨⟨⟨by omega, by rw [PL_len]; omega⟩, len_map_le (by rw [PL_len]; omega)⟩, ?_⟩
    refine ⟨_, ld (at_map (PL_get hg)) (by show _ * 1 = g x; omega), rfl, ?_⟩
    refine ⟨by omega, part1 fzI ⟨[pnn (c (g x))], rfl, ?_⟩⟩
    refine appG (f := pnn) (e := 3) (y := c (g x)) hQ1.gu.push push_cont rfl rfl rfl rfl (by kernel_rfl) rfl rfl (by rw [qtX_len (by omega)]; omega) (by omega) fun vu' σ2 hv2 hk2 hb2 => ?_
    rw [← qtX_succ hx] at hv2
    have one2 := hv2.cell
    have yL := hk2 L _ (hQ1.out L (.inr (.inr rfl))).2 (push_old hQ1.cL)
    have hQ2 := hQ1.setu hv2 (fun j b h1 h2 => hk2 j b h1 (push_old h2)) hb2 (by simp)
    refine ⟨_, _, yL, ⟨by rw [one2.1]; rfl, Nat.le_of_ble_eq_true rfl, by rw [one2.1]; show (vu'.one && true) = true; rw [one2.2]; rfl⟩, [vr', vu'], by rw [one2.1]; rfl, _, rfl, ?_⟩
    refine ⟨⟨by omega, by omega⟩, ?_⟩
    exact ⟨_, by omega, ci ⟨i + 1, _, vr', vu', _, _, rfl, ⟨rfl, rfl, rfl, rfl, rfl, rfl, rfl, trivial⟩, rfl, by omega, by omega, ⟨hQ2⟩⟩⟩
  · have hin : i = F.length := by omega
    rw [hin] at hQ
    have g1 := hQ.gr.cell
    have g2 := hQ.gu.cell
    have l1 := hQ.l1
    refine ⟨_, load_liv hQ.cL rfl rfl, ?_⟩
    refine ⟨_, _, hQ.c1, ⟨rfl, Nat.le_of_ble_eq_true rfl, by show (vr.one && (vu.one && true)) = true; rw [g1.2, g2.2]; rfl⟩, _, rfl, _, rfl, ?_⟩
    refine ⟨_, load_liv (List.getElem?_set_self (List.getElem?_eq_some_iff.1 hQ.c1).1) rfl rfl, ?_⟩
    obtain ⟨σ4, hf, k4⟩ := fz2 (σ := σ.set 1 (.liv 24 [vr, vu])) (hQ.gr.keep fun q bl hq hbl => by rw [List.getElem?_set_ne (fun e => (hQ.out 1 (.inr (.inl rfl))).1 (by rw [e]; exact hq))]; exact hbl).cn (hQ.gu.keep fun q bl hq hbl => by rw [List.getElem?_set_ne (fun e => (hQ.out 1 (.inr (.inl rfl))).2 (by rw [e]; exact hq))]; exact hbl).cn
    refine ⟨⟨[], hf (fun p' σ' => frzAsK σ' [pIs (PL r.length c)] fun rs _ => PV.tup (p' :: rs) = .tup [pO (NL (qtX F c f F.length)) (NL (qtX F c g F.length)), pIs (PL r.length c)]) (frzAsK_clo rfl rfl)⟩⟩
end Go.PI
