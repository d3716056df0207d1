/- Own work of the verifier: OgSh. -/
import Derived.Test.YtefajaiioljjoaaOiBI
set_option linter.all false
set_option exponentiation.threshold 3000
set_option linter.deprecated false
/- SADDLES of the program. -/
open Go.Proofs
namespace Go.PI
open IM
set_option maxRecDepth 10000
set_option maxHeartbeats 4000000
variable (S : FuncId → Option (List AV → Heap → Option (AV × Heap)))
theorem apW_gw {e : TypeId} {v : PV} {σ : List StB} {n : Nat} {cs : List Int} {T : List PV} {ys : List Tmp} (h : Gw e v σ n cs) (k : ∀ j, blkOf v = some j → apC T j ys) : apW T ys v := by
  obtain ⟨-, ⟨rfl, -⟩ | ⟨j, -, rfl, hj⟩⟩ := h
  · trivial
  · exact k j rfl
theorem Gw.ne_of {v : PV} {σ : List StB} {n : Nat} {cs : List Int} {i : Nat} {a : StB} (h : Gw 69 v σ n cs) (h0 : σ[i]? = some a) (hne : ∀ cs, a ≠ .live 69 cs) : blkOf v ≠ some i := by
  obtain ⟨-, ⟨rfl, -⟩ | ⟨j, -, rfl, hj⟩⟩ := h
  · simp [blkOf]
  · intro e
    have e : j = i := Option.some.inj e
    subst e
    rw [h0] at hj
    exact hne _ (Option.some.inj hj)
theorem two_head {a b : StB} {σ : List StB} (h0 : σ[0]? = some a) (h1 : σ[1]? = some b) : ∃ τ, σ = [a, b] ++ τ := by
  match σ, h0, h1 with
  | x :: y :: τ, h0, h1 =>
    cases h0
    cases h1
    exact ⟨τ, rfl⟩
theorem fn97 : ctx.fn 97 = some c97 := by kernel_rfl
theorem saddles_ct (hS : OldO S) {r u : List Int} {n : Nat} {f f' g g' : Nat → Nat} (h : IsO r u n f f' g g') :
    Ct (ctx.plus S) 97 [pO r u] 20000 fun v => v = pSd n f (cmf f f' g g') (sing (cmf f f' g g') n) := by
  have hn := h.le
  have h0 := h.pos
  have pr := h.pr
  have pc := h.cm
  have hru : r = PL n f := h.hr
  have hcm := commutator_ct S hS h
  have hco := corners_ct S hS h
  obtain ⟨c, hc⟩ : ∃ c, c = cmf f f' g g' := ⟨_, rfl⟩
  rw [← hc] at hcm hco pc ⊢
  obtain ⟨V, hV⟩ : ∃ V, V = cycs n c := ⟨_, rfl⟩
  rw [← hV] at hco
  obtain ⟨xs, hxs⟩ : ∃ xs, xs = PL n c := ⟨_, rfl⟩
  obtain ⟨ks, hks⟩ : ∃ ks, ks = PL n (vx V) := ⟨_, rfl⟩
  rw [← hxs] at hcm
  rw [← hks] at hco
  have hxl : xs.length = n := by rw [hxs, PL_len]
  have hkl : ks.length = n := by rw [hks, PL_len]
  have hrl : r.length = n := by rw [hru, PL_len]
  have hxg : ∀ i, i < n → xs[i]? = some (c i : Int) := fun i hi => by rw [hxs, PL_get hi]
  have hkg : ∀ i, i < n → ks[i]? = some (vx V i : Int) := fun i hi => by rw [hks, PL_get hi]
  have hrg : ∀ i, i < n → r[i]? = some (f i : Int) := fun i hi => by rw [hru, PL_get hi]
  have Hc : Hid (c = cmf f f' g g') := ⟨hc⟩
  have HV : Hid (V = cycs n c) := ⟨hV⟩
  clear hc hV hxs hks hru
  have hsl : ∀ i, (sing c i).length ≤ i := fun i => sing_len
  refine ctO_of ⟨fun _ => false, fun _ => false, true⟩ (hS 97 (by decide)) fn97 ?_
  refine ⟨by omega, ?_⟩
  refine ⟨by kernel_rfl, ?_⟩
  refine ⟨_, rfl, rfl, ?_⟩
  refine callq rfl hcm (by omega) ?_
  rintro _ rfl
  refine ⟨_, rfl, rfl, ?_⟩
  refine callq rfl hco (by omega) ?_
  rintro _ rfl
  refine ⟨by omega, ?_⟩
  refine ⟨fun m s => ∃ (i : Nat) (es : List (Int × PV)) (T : List PV), s = ⟨T, [.live 24 [pIs r, pIs u], .mp .i64 es], 10018⟩ ∧ Gt T 88 [(1, .optr 0 0), (3, pIs xs), (4, pIs ks), (5, .omap 1), (17, pIs xs), (18, pn xs.length), (19, pn i)] ∧ m = n - i ∧ i ≤ n ∧ Hid (es = esI (sing c i) 0), ⟨_, ci ⟨0, _, _, rfl, ⟨rfl, rfl, rfl, rfl, rfl, rfl, rfl, rfl, trivial⟩, rfl, Nat.zero_le _, ⟨rfl⟩⟩⟩, ?_⟩
  rintro _ s ⟨i, es, T, rfl, hT, rfl, hi, hes⟩
  obtain ⟨J, rfl⟩ := gt_open hT
  clear hT
  refine ⟨fun hlt => ?_, fun hge => ?_⟩
  · have he := hxg i (by omega)
    have hst := sing_step (c := c) (n := i)
    refine ⟨⟨⟨by omega, by omega⟩, len_map_le (by omega)⟩, ?_⟩
    refine ⟨_, ld (at_map he) (by show _ * 1 = i; omega), ?_⟩
    refine ⟨fun hne => ?_, fun heq => ?_⟩
    · have hne : c i ≠ i := fun e => hne (by rw [e])
      have hni : i ∉ sing c i := fun hm => by have := (mem_sing.1 hm).1; omega
      rw [if_pos hne] at hst
      have hel : es.length = (sing c i).length := by rw [hes.h, esI_len]
      refine ⟨_, _, rfl, by have := hsl i; omega, ?_⟩
      refine ⟨_, _, ⟨rfl, rfl⟩, rfl, _, rfl, ?_⟩
      refine ⟨⟨by omega, by omega⟩, ?_⟩
      exact ⟨_, by omega, ci ⟨i + 1, _, _, rfl, ⟨rfl, rfl, rfl, rfl, rfl, rfl, rfl, rfl, trivial⟩, rfl, by omega, ⟨by rw [hst, esI_app, hel, hes.h, esI_set hni, Nat.zero_add]⟩⟩⟩
    · have heq : c i = i := by have h : (c i : Int) = i := heq; omega
      rw [if_neg (fun h => h heq)] at hst
      refine ⟨⟨by omega, by omega⟩, ?_⟩
      exact ⟨_, by omega, ci ⟨i + 1, _, _, rfl, ⟨rfl, rfl, rfl, rfl, rfl, rfl, rfl, rfl, trivial⟩, rfl, by omega, ⟨by rw [hst]; exact hes.h⟩⟩⟩
  · have hin : i = n := by omega
    have hesn : es = esI (sing c n) 0 := by rw [hes.h, hin]
    have HES : Hid (es = esI (sing c n) 0) := ⟨hesn⟩
    clear hes hesn hin
    refine ⟨fun m s => ∃ (i : Nat) (v : PV) (τ : List StB) (b : Nat) (T : List PV), s = ⟨T, [.live 24 [pIs r, pIs u], .mp .i64 es] ++ τ, b⟩ ∧ Gt T 88 [(1, .optr 0 0), (3, pIs xs), (4, pIs ks), (5, .omap 1), (7, v), (33, pIs xs), (34, pn xs.length), (35, pn i)] ∧ m = n - i ∧ i ≤ n ∧ b ≤ 10018 + 10 * i ∧ Hid (Gw 69 v ([.live 24 [pIs r, pIs u], .mp .i64 es] ++ τ) (sing c i).length (sds n f c (sing c i))), ⟨_, ci ⟨0, .nils, [], _, _, rfl, ⟨rfl, rfl, rfl, rfl, rfl, rfl, rfl, rfl, rfl, trivial⟩, rfl, Nat.zero_le _, Nat.le_refl _, ⟨Gw.nil⟩⟩⟩, ?_⟩
    rintro _ s ⟨i, v, τ, b, T, rfl, hT, rfl, hi, hb, hg⟩
    obtain ⟨J, rfl⟩ := gt_open hT
    clear hT
    refine ⟨fun hlt => ?_, fun hge => ?_⟩
    · have he := hxg i (by omega)
      have hst := sing_step (c := c) (n := i)
      refine ⟨⟨⟨by omega, by omega⟩, len_map_le (by omega)⟩, ?_⟩
      refine ⟨_, ld (at_map he) (by show _ * 1 = i; omega), ?_⟩
      refine ⟨fun heq => ?_, fun hne => ?_⟩
      · have heq : c i = i := by have h : (c i : Int) = i := heq; omega
        rw [if_neg (fun h => h heq)] at hst
        refine ⟨⟨by omega, by omega⟩, ?_⟩
        exact ⟨_, by omega, ci ⟨i + 1, _, _, _, _, rfl, ⟨rfl, rfl, rfl, rfl, rfl, rfl, rfl, rfl, rfl, trivial⟩, rfl, by omega, by omega, ⟨by rw [hst]; exact hg.h⟩⟩⟩
      · have hne : c i ≠ i := fun e => hne (by show (c i : Int) = i; rw [e])
        obtain ⟨hL, hLn⟩ := slen_spec pr (show i < n by omega) hne
        have hL0 := hL.1
        refine ⟨by kernel_rfl, ?_⟩
        refine ⟨_, rfl, rfl, ?_⟩
        refine ⟨⟨⟨by omega, by omega⟩, len_map_le (by omega)⟩, ?_⟩
        refine ⟨_, ld (at_map (hrg i (by omega))) (by show _ * 1 = i; omega), rfl, ?_⟩
        refine ⟨fun q s => ∃ (m : Nat) (T : List PV), s = ⟨T, [.live 24 [pIs r, pIs u], .mp .i64 es] ++ τ, b⟩ ∧ Gt T 88 [(1, .optr 0 0), (3, pIs xs), (4, pIs ks), (5, .omap 1), (7, v), (8, pn i), (9, pn m), (10, pn (it f m i : Nat)), (33, pIs xs), (34, pn xs.length), (35, pn i)] ∧ q = sadl f c i - m ∧ 0 < m ∧ m ≤ sadl f c i, ⟨_, ci ⟨1, _, rfl, ⟨rfl, rfl, rfl, rfl, rfl, rfl, rfl, rfl, rfl, rfl, rfl, rfl, trivial⟩, rfl, by omega, by omega⟩⟩, ?_⟩
        rintro _ s ⟨m, T, rfl, hT, rfl, hm0, hm⟩
        obtain ⟨J2, rfl⟩ := gt_open hT
        clear hT
        obtain ⟨j, hj⟩ : ∃ j, j = it f m i := ⟨_, rfl⟩
        have hjn : j < n := by rw [hj]; exact it_lt pr (by omega) m
        rw [← hj]
        refine ⟨⟨⟨by omega, by omega⟩, len_map_le (by omega)⟩, ?_⟩
        refine ⟨_, ld (at_map (hxg j hjn)) (by show _ * 1 = j; omega), ?_⟩
        refine ⟨fun hfx => ?_, fun hsg => ?_⟩
        · have hfx : c j = j := by have h : (c j : Int) = j := hfx; omega
          have hms : m ≠ sadl f c i := fun e => hL.2.1 (by rw [← e, ← hj]; exact hfx)
          refine ⟨by kernel_rfl, ?_⟩
          refine ⟨⟨by omega, by omega⟩, ?_⟩
          refine ⟨_, rfl, rfl, ?_⟩
          refine ⟨⟨⟨by omega, by omega⟩, len_map_le (by omega)⟩, ?_⟩
          refine ⟨_, ld (at_map (hrg j hjn)) (by show _ * 1 = j; omega), rfl, ?_⟩
          have e1 : f j = it f (m + 1) i := by rw [hj]; rfl
          rw [e1]
          exact ⟨_, by omega, ci ⟨m + 1, _, rfl, ⟨rfl, rfl, rfl, rfl, rfl, rfl, rfl, rfl, rfl, rfl, rfl, rfl, trivial⟩, rfl, by omega, by omega⟩⟩
        · have hsg : c j ≠ j := fun e => hsg (by show (c j : Int) = j; rw [e])
          have hms : m = sadl f c i := by
            by_cases hlt : m < sadl f c i
            · exact absurd (by rw [hj]; exact hL.2.2 m hm0 hlt) hsg
            · omega
          have hcj : c j < n := pc.lt j hjn
          have hcs : c (c j) ≠ c j := fun e => hsg (pc.inj hcj hjn e)
          have hj1 : j ∈ sing c n := mem_sing.2 ⟨hjn, hsg⟩
          have hj2 : c j ∈ sing c n := mem_sing.2 ⟨hcj, hcs⟩
          refine ⟨⟨⟨by omega, by omega⟩, len_map_le (by omega)⟩, ?_⟩
          refine ⟨_, ld (at_map (hxg j hjn)) (by show _ * 1 = j; omega), ?_⟩
          refine ⟨by kernel_rfl, ?_⟩
          refine ⟨⟨⟨by omega, by omega⟩, len_map_le (by omega)⟩, ?_⟩
          refine ⟨_, ld (at_map (hkg i (by omega))) (by show _ * 1 = i; omega), rfl, ?_⟩
          refine ⟨⟨⟨by omega, by omega⟩, len_map_le (by omega)⟩, ?_⟩
          refine ⟨_, ld (at_map (hkg j hjn)) (by show _ * 1 = j; omega), rfl, ?_⟩
          refine ⟨_, ⟨rfl, rfl⟩, ?_, fun hv => by rw [HES.h, esI_get hj1] at hv; cases hv⟩
          intro w1 hw1
          rw [HES.h, esI_get hj1] at hw1
          cases hw1
          refine ⟨_, ⟨rfl, rfl⟩, ?_, fun hv => by rw [HES.h, esI_get hj2] at hv; cases hv⟩
          intro w2 hw2
          rw [HES.h, esI_get hj2] at hw2
          cases hw2
          refine partc rfl ⟨_, rfl, ?_⟩
          refine ⟨by omega, partc rfl ⟨_, rfl, ?_⟩⟩
          have hsd : sdl n f c i = [(i : Int), (m : Int), (vx V i : Nat), (vx V j : Nat), ((0 + (sing c n).idxOf j : Nat) : Int), ((0 + (sing c n).idxOf (c j) : Nat) : Int)] := by
            unfold sdl
            rw [← hms, ← hj, ← HV.h, idx_ZL hj1, idx_ZL hj2, Nat.zero_add, Nat.zero_add]
          refine ⟨apW_gw hg.h fun jj hjj => (by repeat (first | exact trivial | refine ⟨trivial, ?_⟩)), ?_⟩
          refine appW (e := 69) (n := (sing c i).length) (cs := sds n f c (sing c i)) (ys := [(i : Int), (m : Int), (vx V i : Nat), (vx V j : Nat), ((0 + (sing c n).idxOf j : Nat) : Int), ((0 + (sing c n).idxOf (c j) : Nat) : Int)]) hg.h.push rfl push_cont rfl rfl rfl rfl (by kernel_rfl) rfl (by have := hsl i; omega) (by omega) fun v' σ' hw' hk2 => ?_
          have hn0 : blkOf v ≠ some 0 := hg.h.ne_of (a := .live 24 [pIs r, pIs u]) rfl (fun cs e => by cases e)
          have hn1 : blkOf v ≠ some 1 := hg.h.ne_of (a := .mp .i64 es) rfl (fun cs e => by cases e)
          obtain ⟨τ', rfl⟩ := two_head (hk2 0 _ hn0 (push_old rfl)) (hk2 1 _ hn1 (push_old rfl))
          rw [if_pos hne] at hst
          have hw2 : Gw 69 v' ([.live 24 [pIs r, pIs u], .mp .i64 es] ++ τ') (sing c (i + 1)).length (sds n f c (sing c (i + 1))) := by
            rw [hst, List.length_append, sds_app, hsd]
            exact hw'
          refine ⟨⟨by omega, by omega⟩, ?_⟩
          exact ⟨_, by omega, ci ⟨i + 1, v', τ', _, _, rfl, ⟨rfl, rfl, rfl, rfl, rfl, rfl, rfl, rfl, rfl, trivial⟩, rfl, by omega, by omega, ⟨hw2⟩⟩⟩
    · have hin : i = n := by omega
      have hw := hg.h
      rw [hin] at hw
      obtain ⟨σ2, hF2⟩ := hw.fz
      exact endf hF2 rfl
end Go.PI
